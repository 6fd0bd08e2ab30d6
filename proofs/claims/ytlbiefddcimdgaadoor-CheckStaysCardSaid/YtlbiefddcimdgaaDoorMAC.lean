/- The contract of the document's Range of balanced trees. Pairs whose keys and values are rows of one's own. What the program's Check and Bytes of proofs tell, as their contracts say it. What the rows' condition on the two listed tables gives the walks; a start that meets it. The parts between a tree's nodes: what a proof shows, by its nodes and these. No program is named here. The contracts of the program's checks of trees. The contracts of the program's Check and Full. The contract of the program's list of nodes. The contracts of bytes.Equal, and of whether keys rise in a row of trees. -/
import Derived.Test.YtlbiefddcimdgaaDoorMAB
import Derived.Test.YtlbiefddcimdgaaDoorMAA
import Derived.Test.YtlbiefddcimdgaaDoorRows
import Derived.ProofKit
import Derived.LaidMore
import Derived.OpenShut
import Derived.Stop.Joined
/- The contract of the document's Range of balanced trees. -/
namespace Go.Proofs.YtlbiefddcimdgaaDoor
open Go.RowKit
set_option linter.unusedVariables false

theorem infoPair : (Tryd.prog.info? 53).map (fun i => (i.zero, i.size, i.bytes)) = some (some (.agg #[.slice none 0 0, .slice none 0 0]), 2, 48) := by kernel_rfl
/-- The row of trees, the span's box, and the row of pairs that grows from block b3 on. -/
structure RG (w W : World) (sp : DH) (b3 : Nat) (a : Option Addr) (n c : Nat) (hs : List TH) (ts : List Tr) (rv : Value) (rs : List PH) : Prop where
  b : Below w.heap.size w W
  o : OwnT W w.heap.size 27 (.slice a n c) hs
  hw : Heads w hs ts
  box : RBox recD W 24 (w.heap.size + 1) sp
  row : OwnR recP W b3 53 rv rs
  rb : b3 ≤ W.heap.size
  wb : w.heap.size + 2 ≤ b3
  lb : ∀ g, (Value.slice a n c).ownBlock = some g → g < b3
section
variable {w W W' : World} {sp : DH} {b3 : Nat} {a : Option Addr} {n c : Nat} {hs : List TH} {ts : List Tr} {rv rv' : Value} {rs : List PH} {p : PH}
theorem RG.ls (x : RG w W sp b3 a n c hs ts rv rs) : LS w W a n c hs ts := ⟨x.o, x.hw.lower x.b, x.b⟩
theorem RG.below (x : RG w W sp b3 a n c hs ts rv rs) (hb : Below W.heap.size W W') : RG w W' sp b3 a n c hs ts rv rs :=
  ⟨x.b.trans (hb.mono x.b.size), x.o.keep hb, x.hw, x.box.below hb x.box.lt, x.row.keep hb, Nat.le_trans x.rb hb.size, x.wb, x.lb⟩
theorem RG.drew (x : RG w W sp b3 a n c hs ts rv rs) : RG w W.drew sp b3 a n c hs ts rv rs := x.below (Below.refl _ _).drew
theorem RG.app (x : RG w W sp b3 a n c hs ts rv rs) (hg : W.grownBy W' rv.ownBlock) (ho : OwnR recP W' b3 53 rv' (rs ++ [p])) : RG w W' sp b3 a n c hs ts rv' (rs ++ [p]) := by
  refine ⟨x.b.grown hg x.b.size (fun j hj => by have h1 := (x.row.base_le hj).1; have h2 := x.wb; omega), ?_, x.hw, x.box.grown hg (fun q => by have h1 := (x.row.base_le q.symm).1; have h2 := x.wb; omega), ho, Nat.le_trans x.rb hg.size, x.wb, x.lb⟩
  refine World.ownsRow.kept x.o hg ?_
  cases hb : (Value.slice a n c).ownBlock with
  | none => exact .inl rfl
  | some g =>
    right
    intro q
    have h1 := (x.row.base_le q.symm).1
    have h2 := x.lb g hb
    omega
end
/-- What the document's Range tells. -/
def Ranges (w : World) (kvs : List KV) (e : Ending) (w' : World) : Prop := ∃ ra r rc rs, e = .returned (.slice ra r rc) ∧ OwnR recP w' w.heap.size 53 (.slice ra r rc) rs ∧ rs.length = r ∧ PairsIn w rs kvs ∧ Below w.heap.size w w'
theorem filter_in {l : List KV} {i : Nat} {p : KV} {q : KV → Bool} (e : l[i]? = some p) (h : q p = true) : (l.take (i + 1)).filter q = (l.take i).filter q ++ [p] := by
  rw [List.take_add_one, e, List.filter_append]
  simp [h]
theorem filter_out {l : List KV} {i : Nat} {p : KV} {q : KV → Bool} (e : l[i]? = some p) (h : q p = false) : (l.take (i + 1)).filter q = (l.take i).filter q := by
  rw [List.take_add_one, e, List.filter_append]
  simp [h]
/-- At the entry: the tree's box, the span's box. -/
theorem enterS (w : World) (h : TH) (sp : DH) : Box ((w.alloc (.cells #[.int .i64 h.k, .slice h.ka h.kn h.kc, .slice h.va h.vn h.vc, .slice h.da h.dn h.dc, .slice h.ta h.tn h.tc] 27)).alloc (.cells #[.slice sp.ka sp.kn sp.kc, .slice sp.va sp.vn sp.vc, .bool sp.out] 24)) 27 w.heap.size h ∧ RBox recD ((w.alloc (.cells #[.int .i64 h.k, .slice h.ka h.kn h.kc, .slice h.va h.vn h.vc, .slice h.da h.dn h.dc, .slice h.ta h.tn h.tc] 27)).alloc (.cells #[.slice sp.ka sp.kn sp.kc, .slice sp.va sp.vn sp.vc, .bool sp.out] 24)) 24 (w.heap.size + 1) sp ∧ Below w.heap.size w ((w.alloc (.cells #[.int .i64 h.k, .slice h.ka h.kn h.kc, .slice h.va h.vn h.vc, .slice h.da h.dn h.dc, .slice h.ta h.tn h.tc] 27)).alloc (.cells #[.slice sp.ka sp.kn sp.kc, .slice sp.va sp.vn sp.vc, .bool sp.out] 24)) ∧ ((w.alloc (.cells #[.int .i64 h.k, .slice h.ka h.kn h.kc, .slice h.va h.vn h.vc, .slice h.da h.dn h.dc, .slice h.ta h.tn h.tc] 27)).alloc (.cells #[.slice sp.ka sp.kn sp.kc, .slice sp.va sp.vn sp.vc, .bool sp.out] 24)).heap.size = w.heap.size + 2 := by
  have s1 : (w.alloc (.cells #[.int .i64 h.k, .slice h.ka h.kn h.kc, .slice h.va h.vn h.vc, .slice h.da h.dn h.dc, .slice h.ta h.tn h.tc] 27)).heap.size = w.heap.size + 1 := by simp
  have q1 : Below w.heap.size w (w.alloc (.cells #[.int .i64 h.k, .slice h.ka h.kn h.kc, .slice h.va h.vn h.vc, .slice h.da h.dn h.dc, .slice h.ta h.tn h.tc] 27)) := (Below.refl _ _).alloc (Nat.le_refl _) _
  have x1 := Box.new w 27 h
  have x2 := DH.box (w.alloc (.cells #[.int .i64 h.k, .slice h.ka h.kn h.kc, .slice h.va h.vn h.vc, .slice h.da h.dn h.dc, .slice h.ta h.tn h.tc] 27)) 24 sp
  rw [s1] at x2
  exact ⟨x1.below ((Below.refl _ _).alloc (Nat.le_refl _) _) x1.lt, x2, q1.alloc (by rw [s1]; omega) _, by simp⟩

set_option maxRecDepth 100000 in
set_option maxHeartbeats 4000000 in
theorem refRange_any (a : AT) (h : TH) (sp : DH) (f t : List Int) (w : World) (ht : InTree w h a.tr) (hlim : Lim a.pairs) (hcn : countT a.tr ≤ 500) (hs : SpanIn w sp f t) : Calls Tryd.prog 25 #[h.v, sp.v] w (Ranges w (a.pairs.filter (fun p => inS f t sp.out p.1))) := by
  unfold TH.v DH.v
  obtain ⟨ti, hti, htz⟩ := Option.map_eq_some_iff.1 infoPair
  simp only [Prod.mk.injEq] at htz
  obtain ⟨hz0, hz1, hz2⟩ := htz
  have HTI := Lib.hid (And.intro hti (And.intro hz0 (And.intro hz1 hz2)))
  clear hti hz0 hz1 hz2
  obtain ⟨e1, e2, e3, e4⟩ := enterS w h sp
  have HSP := Lib.hid hs
  have hfo := (AT.tr_formed a).2 hlim
  have hln := list_len a.tr hfo
  have hlp : (listT a.tr).length = a.pairs.length := by rw [AT.tr_list, List.length_map, ← AT.nodes_kv, List.length_map]
  generalize hn : (listT a.tr).length = n at hln hlp
  have HN := Lib.hid (And.intro hn hlp)
  have hn5 : n ≤ 500 := by omega
  have HFO := Lib.hid hfo
  clear hs hfo hln hn hlp
  go_enter Tryd.func25, Tryd.ntmps25
  go_upto_region 1 with fail
  generalize ((w.alloc (.cells #[.int .i64 h.k, .slice h.ka h.kn h.kc, .slice h.va h.vn h.vc, .slice h.da h.dn h.dc, .slice h.ta h.tn h.tc] 27)).alloc (.cells #[.slice sp.ka sp.kn sp.kc, .slice sp.va sp.vn sp.vc, .bool sp.out] 24)) = w0 at *
  obtain ⟨x0, x1, x2, x3, x4⟩ := e1.cells
  have HX := Lib.hid (And.intro e2 (And.intro e3 e4))
  have HT := Lib.hid ht
  clear e1 e2 e3 e4 ht
  go_upto_region 3 with (first
    | (go_at_call 53
       refine (refList_any a.tr h w _ HT.out HX.out.2.1 HFO.out hcn).mono ?_
       rintro _ w3 ⟨v3, hs, rfl, ho3, hh3, hb3⟩
       obtain ⟨la, lc, hv3⟩ := ho3.sl
       rw [hh3.1, HN.out.1] at hv3
       subst hv3
       have HG3 : Hid (RG w w3 sp w3.heap.size la n lc hs (listT a.tr) (.slice none 0 0) []) := Lib.hid ⟨HX.out.2.1.trans (hb3.mono HX.out.2.1.size), ho3.weak HX.out.2.1.size, hh3, HX.out.1.below hb3 HX.out.1.lt, OwnR.nil _ _ _ _, Nat.le_refl _, by have := hb3.size; have := HX.out.2.2; omega, fun g hg => by
         rcases ho3.form with ⟨q1, _⟩ | ⟨g', c', q1, _, q3, _⟩
         · rw [q1] at hg
           cases hg
         · rw [q1] at hg
           have e : g' = g := Option.some.inj hg
           subst e
           exact q3⟩
       clear ho3 hh3 hb3 x0 x1 x2 x3 x4))
  go_wp2_with fail
  generalize w3.heap.size = b3 at *
  go_loopw [5, 7] (fun s5 s7 wx => ∃ (i : Nat) (ra : Option Addr) (r rc : Nat) (rs : List PH), i ≤ n ∧ s5 = .slice ra r rc ∧ rs.length = r ∧ s7 = .int .i64 i ∧ RG w wx sp b3 la n lc hs (listT a.tr) (.slice ra r rc) rs ∧ PairsIn w rs ((a.pairs.take i).filter (fun p => inS f t sp.out p.1))) (fun _ s7 _ => n - (intOf s7).toNat)
  case atStart => exact ⟨0, none, 0, 0, [], by omega, rfl, rfl, rfl, HG3.out, PairsIn.nil _⟩
  case round =>
    clear HG3
    obtain ⟨i, ra, r, rc, rs, hi, rfl, hrl, rfl, hrg, hpin⟩ := hrel
    have HPIN := Lib.hid hpin
    have hr5 : r ≤ 500 := by
      have h1 := hpin.1
      have h2 := List.length_filter_le (fun p : KV => inS f t sp.out p.1) (a.pairs.take i)
      rw [List.length_take] at h2
      omega
    by_cases hlt : i < n
    · have q1 : (i : Int) < (n : Int) := by omega
      have hhl : hs.length = n := hrg.hw.1.trans HN.out.1
      have him : i < hs.length := by omega
      have him2 : i < (listT a.tr).length := by rw [HN.out.1]; exact hlt
      obtain ⟨g, hga, -⟩ := hrg.o.at hhl i him
      subst hga
      obtain ⟨l, k, v, rr, e1, -, -, e4⟩ := AT.node_at a i him2
      have HE1 := Lib.hid e1
      have HE4 := Lib.hid e4
      have HKV : Hid (InBytes w (hs[i]).ka (hs[i]).kn (hs[i]).kc k ∧ InBytes w (hs[i]).va (hs[i]).vn (hs[i]).vc v) := Lib.hid (by
        have q := hrg.hw.2 i him him2
        rw [e1] at q
        obtain ⟨H, hp⟩ := q.parts
        exact ⟨hp.key, hp.val⟩)
      have HL := Lib.hid hrg
      clear hrg hpin e1 e4
      cases hin : inS f t sp.out k with
      | false =>
        have HIN := Lib.hid hin
        clear hin
        go_upto_region 6 with fail
        refine wp_region_held_drew (S := (fun W => (W.cell? ⟨(w.heap.size + 1), 0, none⟩ = some (.slice sp.ka sp.kn sp.kc) ∧ W.cell? ⟨(w.heap.size + 1), 1, none⟩ = some (.slice sp.va sp.vn sp.vc) ∧ W.cell? ⟨(w.heap.size + 1), 2, none⟩ = some (.bool sp.out)) ∧ W.cell? ⟨g, i * 5 + 1, none⟩ = some (.slice (hs[i]).ka (hs[i]).kn (hs[i]).kc))) (by kernel_rfl) ⟨HL.out.drew.box.three, (HL.out.drew.ls.cells hhl i him).2.1⟩ (fun hHeld => ?_)
        refine take_w (i := 0) (oi := ?oZ44) (v := ?vZ44) ?hiZ44 (by kernel_rfl) (by kernel_rfl) (by kernel_rfl) ?hQZ44 ?hwZ44 ?hyZ44 (by assumption) ?restZ44
        case hiZ44 => (simp only [List.getElem?_toArray, List.getElem?_cons_zero] <;> rfl)
        case hQZ44 => exact (fun _ _ _ h => h)
        case hwZ44 => rfl
        case hyZ44 => (intro w hSw; (try dsimp only at hSw); go_simp; try with_reducible rfl)
        (try simp only [Act.put, List.setIfInBounds_toArray, List.set_cons_zero, List.set_cons_succ])
        refine take_w (i := 1) (oi := ?oZ45) (v := ?vZ45) ?hiZ45 (by kernel_rfl) (by kernel_rfl) (by kernel_rfl) ?hQZ45 ?hwZ45 ?hyZ45 (by assumption) ?restZ45
        case hiZ45 => (simp only [List.getElem?_toArray, List.getElem?_cons_succ, List.getElem?_cons_zero] <;> rfl)
        case hQZ45 => exact (fun _ _ _ h => h)
        case hwZ45 => rfl
        case hyZ45 => (intro w hSw; (try dsimp only at hSw); go_simp; try with_reducible rfl)
        (try simp only [Act.put, List.setIfInBounds_toArray, List.set_cons_zero, List.set_cons_succ])
        refine take_w (i := 2) (oi := ?oZ46) (v := ?vZ46) ?hiZ46 (by kernel_rfl) (by kernel_rfl) (by kernel_rfl) ?hQZ46 ?hwZ46 ?hyZ46 (by assumption) ?restZ46
        case hiZ46 => (simp only [List.getElem?_toArray, List.getElem?_cons_succ, List.getElem?_cons_zero] <;> rfl)
        case hQZ46 => exact (fun _ _ _ h => h)
        case hwZ46 => rfl
        case hyZ46 => (intro w hSw; (try dsimp only at hSw); go_simp; try with_reducible rfl)
        (try simp only [Act.put, List.setIfInBounds_toArray, List.set_cons_zero, List.set_cons_succ])
        refine take_w (i := 3) (oi := ?oZ47) (v := ?vZ47) ?hiZ47 (by kernel_rfl) (by kernel_rfl) (by kernel_rfl) ?hQZ47 ?hwZ47 ?hyZ47 (by assumption) ?restZ47
        case hiZ47 => (simp only [List.getElem?_toArray, List.getElem?_cons_succ, List.getElem?_cons_zero] <;> rfl)
        case hQZ47 => exact (fun _ _ _ h => h)
        case hwZ47 => rfl
        case hyZ47 => (intro w hSw; (try dsimp only at hSw); go_simp; try with_reducible rfl)
        (try simp only [Act.put, List.setIfInBounds_toArray, List.set_cons_zero, List.set_cons_succ])
        refine take_w (i := 4) (oi := ?oZ48) (v := ?vZ48) ?hiZ48 (by kernel_rfl) (by kernel_rfl) (by kernel_rfl) ?hQZ48 ?hwZ48 ?hyZ48 (by assumption) ?restZ48
        case hiZ48 => (simp only [List.getElem?_toArray, List.getElem?_cons_succ, List.getElem?_cons_zero] <;> rfl)
        case hQZ48 => exact (fun _ _ _ h => h)
        case hwZ48 => rfl
        case hyZ48 => (intro w hSw; (try dsimp only at hSw); go_simp; try with_reducible rfl)
        (try simp only [Act.put, List.setIfInBounds_toArray, List.set_cons_zero, List.set_cons_succ])
        refine take_w (i := 5) (oi := ?oZ49) (v := ?vZ49) ?hiZ49 (by kernel_rfl) (by kernel_rfl) (by kernel_rfl) ?hQZ49 ?hwZ49 ?hyZ49 (by assumption) ?restZ49
        case hiZ49 => (simp only [List.getElem?_toArray, List.getElem?_cons_succ, List.getElem?_cons_zero] <;> rfl)
        case hQZ49 => exact (fun _ _ _ h => h)
        case hwZ49 => rfl
        case hyZ49 => (intro w hSw; (try dsimp only at hSw); go_simp; try with_reducible rfl)
        (try simp only [Act.put, List.setIfInBounds_toArray, List.set_cons_zero, List.set_cons_succ])
        refine wpAnyH_ready (rs := [6]) (by kernel_rfl) (by simp) ?_
        refine AllReadyH.cons (o := ?oZ50) ?hiZ50 (fun K hK => ?stZ50) AllReadyH.nil
        case hiZ50 => (simp only [List.getElem?_toArray, List.getElem?_cons_succ, List.getElem?_cons_zero] <;> rfl)
        go_simp
        go_at_call 36
        refine (refIn_any sp f t k (hs[i]).ka (hs[i]).kn (hs[i]).kc _ (HSP.out.below HL.out.drew.ls.b) (HL.out.drew.ls.key i him him2 HE1.out).1).mono ?_
        rintro _ w6 ⟨rfl, hb6⟩
        have HL6 := Lib.hid (HL.out.drew.below hb6)
        rw [HIN.out]
        clear hb6
        go_simp
        refine hK.out _ _ ?_ (fun hHeld => ?_)
        · (first | exact ⟨HL6.out.box.three, (HL6.out.ls.cells hhl i him).2.1⟩ | exact ⟨HL.out.drew.box.three, (HL.out.drew.ls.cells hhl i him).2.1⟩)
        clear hK K
        (try simp only [Act.put, List.setIfInBounds_toArray, List.set_cons_zero, List.set_cons_succ])
        refine take_w (i := 7) (oi := ?oZ51) (v := ?vZ51) ?hiZ51 (by kernel_rfl) (by kernel_rfl) (by kernel_rfl) ?hQZ51 ?hwZ51 ?hyZ51 (by assumption) ?restZ51
        case hiZ51 => (simp only [List.getElem?_toArray, List.getElem?_cons_succ, List.getElem?_cons_zero] <;> rfl)
        case hQZ51 => exact (fun _ _ _ h => h)
        case hwZ51 => rfl
        case hyZ51 => (intro w hSw; (try dsimp only at hSw); go_simp; try with_reducible rfl)
        (try simp only [Act.put, List.setIfInBounds_toArray, List.set_cons_zero, List.set_cons_succ])
        refine wpAnyH_done (by kernel_rfl) ?_ _
        clear hHeld
        go_wp2_with fail
        exact ⟨⟨i + 1, ra, r, rc, rs, by omega, rfl, hrl, by go_num, HL6.out, by rw [filter_out HE4.out HIN.out]; exact HPIN.out⟩, by simp [intOf]; omega⟩
      | true =>
        have HIN := Lib.hid hin
        clear hin
        go_upto_region 6 with fail
        refine wp_region_held_drew (S := (fun W => (W.cell? ⟨(w.heap.size + 1), 0, none⟩ = some (.slice sp.ka sp.kn sp.kc) ∧ W.cell? ⟨(w.heap.size + 1), 1, none⟩ = some (.slice sp.va sp.vn sp.vc) ∧ W.cell? ⟨(w.heap.size + 1), 2, none⟩ = some (.bool sp.out)) ∧ W.cell? ⟨g, i * 5 + 1, none⟩ = some (.slice (hs[i]).ka (hs[i]).kn (hs[i]).kc))) (by kernel_rfl) ⟨HL.out.drew.box.three, (HL.out.drew.ls.cells hhl i him).2.1⟩ (fun hHeld => ?_)
        refine take_w (i := 0) (oi := ?oZ52) (v := ?vZ52) ?hiZ52 (by kernel_rfl) (by kernel_rfl) (by kernel_rfl) ?hQZ52 ?hwZ52 ?hyZ52 (by assumption) ?restZ52
        case hiZ52 => (simp only [List.getElem?_toArray, List.getElem?_cons_zero] <;> rfl)
        case hQZ52 => exact (fun _ _ _ h => h)
        case hwZ52 => rfl
        case hyZ52 => (intro w hSw; (try dsimp only at hSw); go_simp; try with_reducible rfl)
        (try simp only [Act.put, List.setIfInBounds_toArray, List.set_cons_zero, List.set_cons_succ])
        refine take_w (i := 1) (oi := ?oZ53) (v := ?vZ53) ?hiZ53 (by kernel_rfl) (by kernel_rfl) (by kernel_rfl) ?hQZ53 ?hwZ53 ?hyZ53 (by assumption) ?restZ53
        case hiZ53 => (simp only [List.getElem?_toArray, List.getElem?_cons_succ, List.getElem?_cons_zero] <;> rfl)
        case hQZ53 => exact (fun _ _ _ h => h)
        case hwZ53 => rfl
        case hyZ53 => (intro w hSw; (try dsimp only at hSw); go_simp; try with_reducible rfl)
        (try simp only [Act.put, List.setIfInBounds_toArray, List.set_cons_zero, List.set_cons_succ])
        refine take_w (i := 2) (oi := ?oZ54) (v := ?vZ54) ?hiZ54 (by kernel_rfl) (by kernel_rfl) (by kernel_rfl) ?hQZ54 ?hwZ54 ?hyZ54 (by assumption) ?restZ54
        case hiZ54 => (simp only [List.getElem?_toArray, List.getElem?_cons_succ, List.getElem?_cons_zero] <;> rfl)
        case hQZ54 => exact (fun _ _ _ h => h)
        case hwZ54 => rfl
        case hyZ54 => (intro w hSw; (try dsimp only at hSw); go_simp; try with_reducible rfl)
        (try simp only [Act.put, List.setIfInBounds_toArray, List.set_cons_zero, List.set_cons_succ])
        refine take_w (i := 3) (oi := ?oZ55) (v := ?vZ55) ?hiZ55 (by kernel_rfl) (by kernel_rfl) (by kernel_rfl) ?hQZ55 ?hwZ55 ?hyZ55 (by assumption) ?restZ55
        case hiZ55 => (simp only [List.getElem?_toArray, List.getElem?_cons_succ, List.getElem?_cons_zero] <;> rfl)
        case hQZ55 => exact (fun _ _ _ h => h)
        case hwZ55 => rfl
        case hyZ55 => (intro w hSw; (try dsimp only at hSw); go_simp; try with_reducible rfl)
        (try simp only [Act.put, List.setIfInBounds_toArray, List.set_cons_zero, List.set_cons_succ])
        refine take_w (i := 4) (oi := ?oZ56) (v := ?vZ56) ?hiZ56 (by kernel_rfl) (by kernel_rfl) (by kernel_rfl) ?hQZ56 ?hwZ56 ?hyZ56 (by assumption) ?restZ56
        case hiZ56 => (simp only [List.getElem?_toArray, List.getElem?_cons_succ, List.getElem?_cons_zero] <;> rfl)
        case hQZ56 => exact (fun _ _ _ h => h)
        case hwZ56 => rfl
        case hyZ56 => (intro w hSw; (try dsimp only at hSw); go_simp; try with_reducible rfl)
        (try simp only [Act.put, List.setIfInBounds_toArray, List.set_cons_zero, List.set_cons_succ])
        refine take_w (i := 5) (oi := ?oZ57) (v := ?vZ57) ?hiZ57 (by kernel_rfl) (by kernel_rfl) (by kernel_rfl) ?hQZ57 ?hwZ57 ?hyZ57 (by assumption) ?restZ57
        case hiZ57 => (simp only [List.getElem?_toArray, List.getElem?_cons_succ, List.getElem?_cons_zero] <;> rfl)
        case hQZ57 => exact (fun _ _ _ h => h)
        case hwZ57 => rfl
        case hyZ57 => (intro w hSw; (try dsimp only at hSw); go_simp; try with_reducible rfl)
        (try simp only [Act.put, List.setIfInBounds_toArray, List.set_cons_zero, List.set_cons_succ])
        refine wpAnyH_ready (rs := [6]) (by kernel_rfl) (by simp) ?_
        refine AllReadyH.cons (o := ?oZ58) ?hiZ58 (fun K hK => ?stZ58) AllReadyH.nil
        case hiZ58 => (simp only [List.getElem?_toArray, List.getElem?_cons_succ, List.getElem?_cons_zero] <;> rfl)
        go_simp
        go_at_call 36
        refine (refIn_any sp f t k (hs[i]).ka (hs[i]).kn (hs[i]).kc _ (HSP.out.below HL.out.drew.ls.b) (HL.out.drew.ls.key i him him2 HE1.out).1).mono ?_
        rintro _ w6 ⟨rfl, hb6⟩
        have HL6 := Lib.hid (HL.out.drew.below hb6)
        rw [HIN.out]
        clear hb6
        go_simp
        refine hK.out _ _ ?_ (fun hHeld => ?_)
        · (first | exact ⟨HL6.out.box.three, (HL6.out.ls.cells hhl i him).2.1⟩ | exact ⟨HL.out.drew.box.three, (HL.out.drew.ls.cells hhl i him).2.1⟩)
        clear hK K
        (try simp only [Act.put, List.setIfInBounds_toArray, List.set_cons_zero, List.set_cons_succ])
        refine take_w (i := 7) (oi := ?oZ59) (v := ?vZ59) ?hiZ59 (by kernel_rfl) (by kernel_rfl) (by kernel_rfl) ?hQZ59 ?hwZ59 ?hyZ59 (by assumption) ?restZ59
        case hiZ59 => (simp only [List.getElem?_toArray, List.getElem?_cons_succ, List.getElem?_cons_zero] <;> rfl)
        case hQZ59 => exact (fun _ _ _ h => h)
        case hwZ59 => rfl
        case hyZ59 => (intro w hSw; (try dsimp only at hSw); go_simp; try with_reducible rfl)
        (try simp only [Act.put, List.setIfInBounds_toArray, List.set_cons_zero, List.set_cons_succ])
        refine wpAnyH_done (by kernel_rfl) ?_ _
        clear hHeld
        go_upto_region 8 with fail
        refine wp_region_held_drew (S := (fun W => W.cell? ⟨g, i * 5 + 1, none⟩ = some (.slice (hs[i]).ka (hs[i]).kn (hs[i]).kc) ∧ W.cell? ⟨g, i * 5 + 2, none⟩ = some (.slice (hs[i]).va (hs[i]).vn (hs[i]).vc))) (by kernel_rfl) ⟨(HL6.out.drew.ls.cells hhl i him).2.1, (HL6.out.drew.ls.cells hhl i him).2.2.1⟩ (fun hHeld => ?_)
        refine take_w (i := 0) (oi := ?oZ29) (v := ?vZ29) ?hiZ29 (by kernel_rfl) (by kernel_rfl) (by kernel_rfl) ?hQZ29 ?hwZ29 ?hyZ29 (by assumption) ?restZ29
        case hiZ29 => (simp only [List.getElem?_toArray, List.getElem?_cons_zero] <;> rfl)
        case hQZ29 => exact (fun _ _ _ h => h)
        case hwZ29 => rfl
        case hyZ29 => (intro w hSw; (try dsimp only at hSw); go_simp; try with_reducible rfl)
        (try simp only [Act.put, List.setIfInBounds_toArray, List.set_cons_zero, List.set_cons_succ])
        refine take_w (i := 1) (oi := ?oZ30) (v := ?vZ30) ?hiZ30 (by kernel_rfl) (by kernel_rfl) (by kernel_rfl) ?hQZ30 ?hwZ30 ?hyZ30 (by assumption) ?restZ30
        case hiZ30 => (simp only [List.getElem?_toArray, List.getElem?_cons_succ, List.getElem?_cons_zero] <;> rfl)
        case hQZ30 => exact (fun _ _ _ h => h)
        case hwZ30 => rfl
        case hyZ30 => (intro w hSw; (try dsimp only at hSw); go_simp; try with_reducible rfl)
        (try simp only [Act.put, List.setIfInBounds_toArray, List.set_cons_zero, List.set_cons_succ])
        refine take_w (i := 2) (oi := ?oZ31) (v := ?vZ31) ?hiZ31 (by kernel_rfl) (by kernel_rfl) (by kernel_rfl) ?hQZ31 ?hwZ31 ?hyZ31 (by assumption) ?restZ31
        case hiZ31 => (simp only [List.getElem?_toArray, List.getElem?_cons_succ, List.getElem?_cons_zero] <;> rfl)
        case hQZ31 => exact (fun _ _ _ h => h)
        case hwZ31 => rfl
        case hyZ31 => (intro w hSw; (try dsimp only at hSw); go_simp; try with_reducible rfl)
        (try simp only [Act.put, List.setIfInBounds_toArray, List.set_cons_zero, List.set_cons_succ])
        refine take_w (i := 3) (oi := ?oZ32) (v := ?vZ32) ?hiZ32 (by kernel_rfl) (by kernel_rfl) (by kernel_rfl) ?hQZ32 ?hwZ32 ?hyZ32 (by assumption) ?restZ32
        case hiZ32 => (simp only [List.getElem?_toArray, List.getElem?_cons_succ, List.getElem?_cons_zero] <;> rfl)
        case hQZ32 => exact (fun _ _ _ h => h)
        case hwZ32 => rfl
        case hyZ32 => (intro w hSw; (try dsimp only at hSw); go_simp; try with_reducible rfl)
        (try simp only [Act.put, List.setIfInBounds_toArray, List.set_cons_zero, List.set_cons_succ])
        refine take_w (i := 4) (oi := ?oZ33) (v := ?vZ33) ?hiZ33 (by kernel_rfl) (by kernel_rfl) (by kernel_rfl) ?hQZ33 ?hwZ33 ?hyZ33 (by assumption) ?restZ33
        case hiZ33 => (simp only [List.getElem?_toArray, List.getElem?_cons_succ, List.getElem?_cons_zero] <;> rfl)
        case hQZ33 => exact (fun _ _ _ h => h)
        case hwZ33 => rfl
        case hyZ33 => (intro w hSw; (try dsimp only at hSw); go_simp; try with_reducible rfl)
        (try simp only [Act.put, List.setIfInBounds_toArray, List.set_cons_zero, List.set_cons_succ])
        refine take_w (i := 5) (oi := ?oZ34) (v := ?vZ34) ?hiZ34 (by kernel_rfl) (by kernel_rfl) (by kernel_rfl) ?hQZ34 ?hwZ34 ?hyZ34 (by assumption) ?restZ34
        case hiZ34 => (simp only [List.getElem?_toArray, List.getElem?_cons_succ, List.getElem?_cons_zero] <;> rfl)
        case hQZ34 => exact (fun _ _ _ h => h)
        case hwZ34 => rfl
        case hyZ34 => (intro w hSw; (try dsimp only at hSw); go_simp; try with_reducible rfl)
        (try simp only [Act.put, List.setIfInBounds_toArray, List.set_cons_zero, List.set_cons_succ])
        refine take_w (i := 6) (oi := ?oZ35) (v := ?vZ35) ?hiZ35 (by kernel_rfl) (by kernel_rfl) (by kernel_rfl) ?hQZ35 ?hwZ35 ?hyZ35 (by assumption) ?restZ35
        case hiZ35 => (simp only [List.getElem?_toArray, List.getElem?_cons_succ, List.getElem?_cons_zero] <;> rfl)
        case hQZ35 => exact (fun _ _ _ h => h)
        case hwZ35 => rfl
        case hyZ35 => (intro w hSw; (try dsimp only at hSw); go_simp; try with_reducible rfl)
        (try simp only [Act.put, List.setIfInBounds_toArray, List.set_cons_zero, List.set_cons_succ])
        refine take_w (i := 7) (oi := ?oZ36) (v := ?vZ36) ?hiZ36 (by kernel_rfl) (by kernel_rfl) (by kernel_rfl) ?hQZ36 ?hwZ36 ?hyZ36 (by assumption) ?restZ36
        case hiZ36 => (simp only [List.getElem?_toArray, List.getElem?_cons_succ, List.getElem?_cons_zero] <;> rfl)
        case hQZ36 => exact (fun _ _ _ h => h)
        case hwZ36 => rfl
        case hyZ36 => (intro w hSw; (try dsimp only at hSw); go_simp; try with_reducible rfl)
        (try simp only [Act.put, List.setIfInBounds_toArray, List.set_cons_zero, List.set_cons_succ])
        refine take_w (i := 8) (oi := ?oZ37) (v := ?vZ37) ?hiZ37 (by kernel_rfl) (by kernel_rfl) (by kernel_rfl) ?hQZ37 ?hwZ37 ?hyZ37 (by assumption) ?restZ37
        case hiZ37 => (simp only [List.getElem?_toArray, List.getElem?_cons_succ, List.getElem?_cons_zero] <;> rfl)
        case hQZ37 => exact (fun _ _ _ h => h)
        case hwZ37 => rfl
        case hyZ37 => (intro w hSw; (try dsimp only at hSw); go_simp; try with_reducible rfl)
        (try simp only [Act.put, List.setIfInBounds_toArray, List.set_cons_zero, List.set_cons_succ])
        refine take_w (i := 9) (oi := ?oZ38) (v := ?vZ38) ?hiZ38 (by kernel_rfl) (by kernel_rfl) (by kernel_rfl) ?hQZ38 ?hwZ38 ?hyZ38 (by assumption) ?restZ38
        case hiZ38 => (simp only [List.getElem?_toArray, List.getElem?_cons_succ, List.getElem?_cons_zero] <;> rfl)
        case hQZ38 => exact (fun _ _ _ h => h)
        case hwZ38 => rfl
        case hyZ38 => (intro w hSw; (try dsimp only at hSw); go_simp; try with_reducible rfl)
        (try simp only [Act.put, List.setIfInBounds_toArray, List.set_cons_zero, List.set_cons_succ])
        refine take_w (i := 10) (oi := ?oZ39) (v := ?vZ39) ?hiZ39 (by kernel_rfl) (by kernel_rfl) (by kernel_rfl) ?hQZ39 ?hwZ39 ?hyZ39 (by assumption) ?restZ39
        case hiZ39 => (simp only [List.getElem?_toArray, List.getElem?_cons_succ, List.getElem?_cons_zero] <;> rfl)
        case hQZ39 => exact (fun _ _ _ h => h)
        case hwZ39 => rfl
        case hyZ39 => (intro w hSw; (try dsimp only at hSw); go_simp; try with_reducible rfl)
        (try simp only [Act.put, List.setIfInBounds_toArray, List.set_cons_zero, List.set_cons_succ])
        refine take_w (i := 11) (oi := ?oZ40) (v := ?vZ40) ?hiZ40 (by kernel_rfl) (by kernel_rfl) (by kernel_rfl) ?hQZ40 ?hwZ40 ?hyZ40 (by assumption) ?restZ40
        case hiZ40 => (simp only [List.getElem?_toArray, List.getElem?_cons_succ, List.getElem?_cons_zero] <;> rfl)
        case hQZ40 => exact (fun _ _ _ h => h)
        case hwZ40 => rfl
        case hyZ40 => (intro w hSw; (try dsimp only at hSw); go_simp; try with_reducible rfl)
        (try simp only [Act.put, List.setIfInBounds_toArray, List.set_cons_zero, List.set_cons_succ])
        refine wpAnyH_ready (rs := [12]) (by kernel_rfl) (by simp) ?_
        refine AllReadyH.cons (o := ?oZ41) ?hiZ41 (fun K hK => ?stZ41) AllReadyH.nil
        case hiZ41 => (simp only [List.getElem?_toArray, List.getElem?_cons_succ, List.getElem?_cons_zero] <;> rfl)
        go_simp
        refine hK.out _ _ ?_ (fun hHeld => ?_)
        · (first | exact ⟨(HL9.out.ls.cells hhl i him).2.1, (HL9.out.ls.cells hhl i him).2.2.1⟩ | exact ⟨(HL6.out.drew.ls.cells hhl i him).2.1, (HL6.out.drew.ls.cells hhl i him).2.2.1⟩ | exact ⟨((HL6.out.drew.below ((Below.refl _ _).alloc (Nat.le_refl _) _)).ls.cells hhl i him).2.1, ((HL6.out.drew.below ((Below.refl _ _).alloc (Nat.le_refl _) _)).ls.cells hhl i him).2.2.1⟩)
        clear hK K
        (try simp only [Act.put, List.setIfInBounds_toArray, List.set_cons_zero, List.set_cons_succ])
        refine wpAnyH_ready (rs := [13]) (by kernel_rfl) (by simp) ?_
        refine AllReadyH.cons (o := ?oZ42) ?hiZ42 (fun K hK => ?stZ42) AllReadyH.nil
        case hiZ42 => (simp only [List.getElem?_toArray, List.getElem?_cons_succ, List.getElem?_cons_zero] <;> rfl)
        have qa : Below w6.drew.heap.size w6.drew (w6.drew.alloc (.cells #[.slice (hs[i]).ka (hs[i]).kn (hs[i]).kc, .slice (hs[i]).va (hs[i]).vn (hs[i]).vc] 53)) := (Below.refl _ _).alloc (Nat.le_refl _) _
        have HLA := Lib.hid (HL6.out.drew.below qa)
        refine step_append_rec _ rfl (.tmp 25) (.tmp 37) 30 rfl recP b3 53 ti _ 48 Tryd.underlying30 HTI.out.1 HTI.out.2.1 HTI.out.2.2.1 HTI.out.2.2.2 rfl (.slice ra r rc) rs rfl HLA.out.row w6.heap.size 1 (⟨(hs[i]).ka, (hs[i]).kn, (hs[i]).kc, (hs[i]).va, (hs[i]).vn, (hs[i]).vc⟩ : PH) rfl (RBox.cell (c := recP) (r := (⟨(hs[i]).ka, (hs[i]).kn, (hs[i]).kc, (hs[i]).va, (hs[i]).vn, (hs[i]).vc⟩ : PH)) (heap_alloc_new w6.drew _)) ?_ (by omega) HLA.out.rb ?_
        · rw [hrl]
          omega
        intro v9 w9 ho9 hg9 hw9 _
        obtain ⟨ra9, rc9, hv9⟩ := ho9.sl
        have hlen9 : (rs ++ [(⟨(hs[i]).ka, (hs[i]).kn, (hs[i]).kc, (hs[i]).va, (hs[i]).vn, (hs[i]).vc⟩ : PH)]).length = r + 1 := by simp [hrl]
        rw [hlen9] at hv9
        subst hv9
        have HL9 := Lib.hid (HLA.out.app hg9 ho9)
        have HLE9 := Lib.hid hlen9
        clear ho9 hg9 hlen9 qa
        refine hK.out _ _ ?_ (fun hHeld => ?_)
        · (first | exact ⟨(HL9.out.ls.cells hhl i him).2.1, (HL9.out.ls.cells hhl i him).2.2.1⟩ | exact ⟨(HL6.out.drew.ls.cells hhl i him).2.1, (HL6.out.drew.ls.cells hhl i him).2.2.1⟩ | exact ⟨((HL6.out.drew.below ((Below.refl _ _).alloc (Nat.le_refl _) _)).ls.cells hhl i him).2.1, ((HL6.out.drew.below ((Below.refl _ _).alloc (Nat.le_refl _) _)).ls.cells hhl i him).2.2.1⟩)
        clear hK K
        (try simp only [Act.put, List.setIfInBounds_toArray, List.set_cons_zero, List.set_cons_succ])
        refine take_w (i := 14) (oi := ?oZ43) (v := ?vZ43) ?hiZ43 (by kernel_rfl) (by kernel_rfl) (by kernel_rfl) ?hQZ43 ?hwZ43 ?hyZ43 (by assumption) ?restZ43
        case hiZ43 => (simp only [List.getElem?_toArray, List.getElem?_cons_succ, List.getElem?_cons_zero] <;> rfl)
        case hQZ43 => exact (fun _ _ _ h => h)
        case hwZ43 => rfl
        case hyZ43 => (intro w hSw; (try dsimp only at hSw); go_simp; try with_reducible rfl)
        (try simp only [Act.put, List.setIfInBounds_toArray, List.set_cons_zero, List.set_cons_succ])
        refine wpAnyH_done (by kernel_rfl) ?_ _
        clear hHeld
        go_wp2_with fail
        exact ⟨⟨i + 1, ra9, r + 1, rc9, _, by omega, rfl, HLE9.out, by go_num, HL9.out, by rw [filter_in HE4.out HIN.out]; exact HPIN.out.snoc HKV.out.1 HKV.out.2⟩, by simp [intOf]; omega⟩
    · obtain rfl : i = n := by omega
      have q1 : ¬ (i : Int) < (i : Int) := by omega
      go_wp2_with fail
      go_ret
      refine ⟨ra, r, rc, rs, rfl, hrg.row.weak (by have := hrg.wb; omega), hrl, ?_, hrg.b⟩
      have hp := HPIN.out
      rw [List.take_of_length_le (by have := HN.out.2; omega)] at hp
      exact hp
end Go.Proofs.YtlbiefddcimdgaaDoor

/- Pairs whose keys and values are rows of one's own. -/
namespace Go.Proofs.YtlbiefddcimdgaaDoor
open Go.RowKit
set_option linter.unusedVariables false

/-- A pair whose key and value are rows of one's own. -/
structure POK (W : World) (base : Nat) (p : PH) (q : KV) : Prop where
  k : W.ownsRow base 5 1 (.slice p.ka p.kn p.kc) q.1.length (q.1.map (Value.int .u8))
  v : W.ownsRow base 5 1 (.slice p.va p.vn p.vc) q.2.length (q.2.map (Value.int .u8))
  kb : Bytes8 q.1
  vb : Bytes8 q.2
theorem POK.pair {W : World} {base : Nat} {p : PH} {q : KV} (x : POK W base p q) : InBytes W p.ka p.kn p.kc q.1 ∧ InBytes W p.va p.vn p.vc q.2 := ⟨own_in x.k x.kb, own_in x.v x.vb⟩
theorem POK.keep {W W' : World} {base : Nat} {p : PH} {q : KV} (x : POK W base p q) (hb : Below W.heap.size W W') : POK W' base p q := ⟨own_keep x.k hb, own_keep x.v hb, x.kb, x.vb⟩
theorem POK.grown {W W' : World} {base b' size n : Nat} {e : TypeId} {v : Value} {xs : List Value} {p : PH} {q : KV} (x : POK W base p q) (ho : W.ownsRow b' e size v n xs) (hne : 5 ≠ e) (hg : W.grownBy W' v.ownBlock) : POK W' base p q :=
  ⟨World.ownsRow.kept x.k hg (own_apart x.k ho hne), World.ownsRow.kept x.v hg (own_apart x.v ho hne), x.kb, x.vb⟩
/-- Many such pairs. -/
def PV (W : World) (base : Nat) (ps : List PH) (kvs : List KV) : Prop := ps.length = kvs.length ∧ ∀ i (h1 : i < ps.length) (h2 : i < kvs.length), POK W base ps[i] kvs[i]
section
variable {W W' : World} {base : Nat} {ps : List PH} {kvs : List KV}
theorem PV.nil (W : World) (base : Nat) : PV W base [] [] := ⟨rfl, fun i h1 => by simp at h1⟩
theorem PV.keep (x : PV W base ps kvs) (hb : Below W.heap.size W W') : PV W' base ps kvs := ⟨x.1, fun i h1 h2 => (x.2 i h1 h2).keep hb⟩
theorem PV.grown {b' size n : Nat} {e : TypeId} {v : Value} {xs : List Value} (x : PV W base ps kvs) (ho : W.ownsRow b' e size v n xs) (hne : 5 ≠ e) (hg : W.grownBy W' v.ownBlock) : PV W' base ps kvs := ⟨x.1, fun i h1 h2 => (x.2 i h1 h2).grown ho hne hg⟩
theorem PV.snoc (x : PV W base ps kvs) {p : PH} {q : KV} (h : POK W base p q) : PV W base (ps ++ [p]) (kvs ++ [q]) := by
  refine ⟨by simp [x.1], fun i h1 h2 => ?_⟩
  by_cases hi : i < ps.length
  · rw [List.getElem_append_left hi, List.getElem_append_left (by rw [← x.1]; exact hi)]
    exact x.2 i hi _
  · have e0 : i = ps.length := by simp at h1; omega
    subst e0
    have e2 : (kvs ++ [q])[ps.length] = q := by simp [x.1]
    rw [e2]
    simpa using h
theorem PV.pairs (x : PV W base ps kvs) : PairsIn W ps kvs := ⟨x.1, fun i h1 h2 => (x.2 i h1 h2).pair⟩
theorem PV.vals (x : PV W base ps kvs) : ValsOK W base ps := by
  intro i h hn
  have p := x.2 i h (by rw [← x.1]; exact h)
  have hin := p.pair.2
  rcases p.v.2 with ⟨q, _⟩ | ⟨g, c, cur, q, hb, hh, hc, _, hs, ht⟩
  · injection q with _ q
    omega
  · injection q with q1 q2 q3
    refine ⟨g, 0, q1, hb, (Array.getElem?_eq_some_iff.1 hh).1, fun k hk => ⟨by simp [World.frozen?, hh], ?_⟩⟩
    obtain ⟨g', off', e, _, hseg⟩ := hin.place hn
    rw [q1] at e
    injection e with e
    injection e with e4 e5
    subst e4 e5
    have hk2 : k < (kvs[i]'(by rw [← x.1]; exact h)).2.length := by rw [hin.len]; exact hk
    have hz := p.vb _ (List.getElem_mem hk2)
    exact ⟨_, hseg k hk2, hz.1, hz.2⟩
theorem PV.weak {base' : Nat} (x : PV W base ps kvs) (hb : base' ≤ base) : PV W base' ps kvs := ⟨x.1, fun i h1 h2 => ⟨own_weak (x.2 i h1 h2).k hb, own_weak (x.2 i h1 h2).v hb, (x.2 i h1 h2).kb, (x.2 i h1 h2).vb⟩⟩
end
/-- Range's pairs, whose bytes are one's own. -/
def RangeOwn (w : World) (kvs : List KV) (e : Ending) (w' : World) : Prop := ∃ ra r rc rs, e = .returned (.tuple #[.slice ra r rc, .nilIface]) ∧ OwnR recP w' w.heap.size 53 (.slice ra r rc) rs ∧ rs.length = r ∧ PV w' w.heap.size rs kvs ∧ Below w.heap.size w w'
/-- The row of trees, the span's box, and the row of pairs of one's own. -/
structure RS (w W : World) (gs : Nat) (sp : DH) (a : Option Addr) (n c : Nat) (hs : List TH) (ts : List Tr) (rv : Value) (rs : List PH) (kvs : List KV) : Prop where
  b : Below w.heap.size w W
  o : OwnT W w.heap.size 27 (.slice a n c) hs
  hw : Heads w hs ts
  box : RBox recD W 24 gs sp
  row : OwnR recP W w.heap.size 53 rv rs
  pv : PV W w.heap.size rs kvs
section
variable {w W W' : World} {gs : Nat} {sp : DH} {a : Option Addr} {n c : Nat} {hs : List TH} {ts : List Tr} {rv rv' : Value} {rs : List PH} {kvs : List KV} {p : PH} {q : KV}
theorem RS.ls (x : RS w W gs sp a n c hs ts rv rs kvs) : LS w W a n c hs ts := ⟨x.o, x.hw.lower x.b, x.b⟩
theorem RS.below (x : RS w W gs sp a n c hs ts rv rs kvs) (hb : Below W.heap.size W W') : RS w W' gs sp a n c hs ts rv rs kvs :=
  ⟨x.b.trans (hb.mono x.b.size), x.o.keep hb, x.hw, x.box.below hb x.box.lt, x.row.keep hb, x.pv.keep hb⟩
theorem RS.app (x : RS w W gs sp a n c hs ts rv rs kvs) (hg : W.grownBy W' rv.ownBlock) (ho : OwnR recP W' w.heap.size 53 rv' (rs ++ [p])) (hp : POK W w.heap.size p q) : RS w W' gs sp a n c hs ts rv' (rs ++ [p]) (kvs ++ [q]) :=
  ⟨x.b.grown hg x.b.size (fun j hj => (x.row.base_le hj).1), World.ownsRow.kept x.o hg (own_apart x.o x.row (by decide)), x.hw, x.box.grown hg (fun e => by have := own_type x.row e.symm x.box; exact absurd this (by decide)), ho, (x.pv.grown x.row (by decide) hg).snoc (hp.grown x.row (by decide) hg)⟩
end
/-- And a node's box. -/
structure RN (w W : World) (gs : Nat) (sp : DH) (a : Option Addr) (n c : Nat) (hs : List TH) (ts : List Tr) (rv : Value) (rs : List PH) (kvs : List KV) (g : Nat) (hh : TH) : Prop where
  r : RS w W gs sp a n c hs ts rv rs kvs
  x : Box W 27 g hh
section
variable {w W W' : World} {gs : Nat} {sp : DH} {a : Option Addr} {n c g : Nat} {hs : List TH} {ts : List Tr} {rv rv' : Value} {rs : List PH} {kvs : List KV} {p : PH} {q : KV} {hh : TH}
theorem RN.below (x : RN w W gs sp a n c hs ts rv rs kvs g hh) (hb : Below W.heap.size W W') : RN w W' gs sp a n c hs ts rv rs kvs g hh := ⟨x.r.below hb, x.x.below hb x.x.lt⟩
theorem RN.drew (x : RN w W gs sp a n c hs ts rv rs kvs g hh) : RN w W.drew gs sp a n c hs ts rv rs kvs g hh := x.below (Below.refl _ _).drew
theorem RN.app (x : RN w W gs sp a n c hs ts rv rs kvs g hh) (hg : W.grownBy W' rv.ownBlock) (ho : OwnR recP W' w.heap.size 53 rv' (rs ++ [p])) (hp : POK W w.heap.size p q) : RN w W' gs sp a n c hs ts rv' (rs ++ [p]) (kvs ++ [q]) g hh :=
  ⟨x.r.app hg ho hp, (hg.block g x.x.lt (fun e => by have := own_type x.r.row e.symm x.x; exact absurd this (by decide))).trans x.x⟩
/-- Two cells of the node: its key, its value. -/
theorem RN.two (x : RN w W gs sp a n c hs ts rv rs kvs g hh) : W.cell? ⟨g, 1, none⟩ = some (.slice hh.ka hh.kn hh.kc) ∧ W.cell? ⟨g, 2, none⟩ = some (.slice hh.va hh.vn hh.vc) := ⟨x.x.cells.2.1, x.x.cells.2.2.1⟩
end
end Go.Proofs.YtlbiefddcimdgaaDoor

/- What the program's Check and Bytes of proofs tell, as their contracts say it. -/
namespace Go.Proofs.YtlbiefddcimdgaaDoor
open Go.RowKit
set_option linter.unusedVariables false

/-- All of Check: the error's number, and the pairs. -/
def checkX (x : Int) (root f t : List Int) (o : Bool) (p : Tr) : Nat × List KV := if 1 ≤ x ∧ x ≤ 32 ∧ (root.length : Int) = x then checkR x.toNat root f t o p else (1, [])
/-- Check's answer. -/
def ChkTold (w : World) (r : Nat × List KV) (e : Ending) (w' : World) : Prop := ∃ ra n c rs, e = .returned (.tuple #[.slice ra n c, codeV r.1]) ∧ OwnR recP w' w.heap.size 53 (.slice ra n c) rs ∧ rs.length = n ∧ PV w' w.heap.size rs r.2 ∧ Below w.heap.size w w'
/-- Bytes' answer. -/
def BytesTold (w : World) (r : Nat × List KV) (e : Ending) (w' : World) : Prop := ∃ a n c is, e = .returned (.tuple #[.slice a n c, .bool is, codeV r.1]) ∧ ((is = false ∧ n = 0 ∧ (r.1 ≠ 0 ∨ r.2 = [])) ∨ ∃ key v, is = true ∧ r.1 = 0 ∧ r.2 = [(key, v)] ∧ InBytes w' a n c v) ∧ Below w.heap.size w w'
theorem checkT_le (p : Tr) : checkT p ≤ 13 := by
  unfold checkT
  split
  · omega
  · split <;> omega
theorem checkR_le (k : Nat) (root f t : List Int) (o : Bool) (p : Tr) : (checkR k root f t o p).1 ≤ 13 := by
  unfold checkR
  split
  · exact checkT_le p
  · split
    · show 3 ≤ 13; omega
    · split
      · show 6 ≤ 13; omega
      · split
        · show 7 ≤ 13; omega
        · split
          · show 8 ≤ 13; omega
          · show 0 ≤ 13; omega
theorem checkX_le (x : Int) (root f t : List Int) (o : Bool) (p : Tr) : (checkX x root f t o p).1 ≤ 13 := by
  unfold checkX
  split
  · exact checkR_le _ _ _ _ _ _
  · show 1 ≤ 13; omega
theorem checkX_ok {k : Nat} (hk1 : 1 ≤ k) (hk2 : k ≤ 32) {root : List Int} (hr : root.length = k) (f t : List Int) (o : Bool) (p : Tr) : checkX k root f t o p = checkR k root f t o p := by
  unfold checkX
  rw [if_pos ⟨by omega, by omega, by omega⟩]
  rfl
theorem checkX_no {x : Int} {root : List Int} (h : ¬ (1 ≤ x ∧ x ≤ 32 ∧ (root.length : Int) = x)) (f t : List Int) (o : Bool) (p : Tr) : checkX x root f t o p = (1, []) := by
  unfold checkX
  rw [if_neg h]
end Go.Proofs.YtlbiefddcimdgaaDoor

/- What the rows' condition on the two listed tables gives the walks; a start that meets it. -/
namespace Go.Proofs.YtlbiefddcimdgaaDoor
open Go.ChangeShapes Go.WideShapes Go.ChangeAt Go.RowKit
set_option linter.unusedVariables false

theorem own : ownKnob Tryd.prog.godebug = none := by kernel_rfl
theorem laidOut : laidOutB Tryd.prog = true := by kernel_rfl
theorem gK : Tryd.prog.globalNamed "heartwood/sha.roundConstants" = some 2 := by kernel_rfl
theorem gH : Tryd.prog.globalNamed "heartwood/sha.initialState" = some 1 := by kernel_rfl
theorem tK : (Tryd.prog.globals[2]?).map (·.type) = some 117 := by kernel_rfl
theorem tH : (Tryd.prog.globals[1]?).map (·.type) = some 39 := by kernel_rfl
theorem cK : Tryd.prog.cellsOf 117 = 64 := by kernel_rfl
theorem cH : Tryd.prog.cellsOf 39 = 8 := by kernel_rfl
theorem cU : Tryd.prog.cellsOf 38 = 1 := by kernel_rfl

abbrev tabs : List (String × DataW Unit) := [("heartwood/sha.roundConstants", Rows.laid_heartwood_sha_roundConstants), ("heartwood/sha.initialState", Rows.laid_heartwood_sha_initialState)]

theorem of_laid {W : World} (h : laidMetH Tryd.prog tabs W) : TabLies W := by
  rw [MakeChecks.laidMetH_plain _ _ _ (by kernel_rfl)] at h
  obtain ⟨ps, ⟨g0, t0, cs0, f0, p0, q0, hg0, ht0, hv0, hd0, ⟨g1, t1, cs1, f1, p1, q1, hg1, ht1, hv1, hd1, _, _⟩, _⟩, _, _⟩ := h
  obtain rfl := Option.some.inj (gK.symm.trans hg0)
  obtain rfl := Option.some.inj (gH.symm.trans hg1)
  obtain rfl := Option.some.inj (tK.symm.trans ht0)
  obtain rfl := Option.some.inj (tH.symm.trans ht1)
  have e0 : cs0.toList = kTab.map (Value.int .u32) := ints_of_trod (zs := kTab) Tryd.underlying117 Tryd.underlying38 cU cK rfl hd0
  have e1 : cs1.toList = hTab.map (Value.int .u32) := ints_of_trod (zs := hTab) Tryd.underlying39 Tryd.underlying38 cU cH rfl hd1
  constructor
  · simp only [World.var?, gK, Option.bind_some] at hv0
    split at hv0
    · rename_i cs t fr hh
      injection hv0 with hv0
      subst hv0
      refine ⟨t, fr, ?_⟩
      rw [hh, ← e0]
    · cases hv0
  · simp only [World.var?, gH, Option.bind_some] at hv1
    split at hv1
    · rename_i cs t fr hh
      injection hv1 with hv1
      subst hv1
      refine ⟨t, fr, ?_⟩
      rw [hh, ← e1]
    · cases hv1

/-- The door's own heap meets the condition. -/
theorem door_met (os : Os) (args : Array Value) : laidMetH Tryd.prog tabs ((World.doorLaid Tryd.prog 400 os).forCall (fun _ _ => 0) ⟨#[], args, []⟩).memory :=
  laidMetH_of_parts3 (fuel := 8) (laidMet_of_run' 8 (by kernel_rfl) (by kernel_rfl)) (by kernel_rfl) (by kernel_rfl)
end Go.Proofs.YtlbiefddcimdgaaDoor

/- The parts between a tree's nodes: what a proof shows, by its nodes and these. No program is named here. -/
namespace Go.Proofs.YtlbiefddcimdgaaDoor
open Go.RowKit
set_option linter.unusedVariables false

/-- The parts without kids, in the order of the keys. -/
def endsT (t : Tr) : List Tr := t.fold fun t rs => if rs.length = 0 then [t] else rs.flatten
theorem endsT_eq (t : Tr) : endsT t = if t.kids.length = 0 then [t] else (t.kids.map endsT).flatten := by
  conv => lhs; unfold endsT
  rw [Tr.fold_eq, List.length_map]
  rfl
theorem endsT_0 {t : Tr} (h : t.kids.length = 0) : endsT t = [t] := by rw [endsT_eq, if_pos h]
theorem endsT_2 {t : Tr} (h : t.kids.length = 2) : endsT t = endsT (t.kids[0]'(by omega)) ++ endsT (t.kids[1]'(by omega)) := by
  have q : ∀ (l : List Tr) (hl : l.length = 2), (l.map endsT).flatten = endsT (l[0]'(by omega)) ++ endsT (l[1]'(by omega)) := by
    intro l hl
    match l, hl with
    | [a, b], _ => simp
  rw [endsT_eq, if_neg (by omega), q t.kids h]
theorem ends_len (t : Tr) : (endsT t).length ≤ countT t := by
  induction t using Tr.ind with
  | h t ih =>
  rw [endsT_eq, countT_eq]
  split
  · simp
  · have : ∀ l : List Tr, (∀ x ∈ l, (endsT x).length ≤ countT x) → (l.map endsT).flatten.length ≤ (l.map countT).sum := by
      intro l
      induction l with
      | nil => intro _; simp
      | cons a l ihl =>
        intro hl
        have h1 := hl a List.mem_cons_self
        have h2 := ihl (fun x hx => hl x (List.mem_cons_of_mem _ hx))
        simp only [List.map_cons, List.flatten_cons, List.length_append, List.sum_cons]
        omega
    have := this t.kids ih
    omega
/-- A cut as an item; a node as an item; both, by turns. -/
def cutI (e : Tr) : List IT := if e.k = 3 then [⟨true, false, [], []⟩] else []
def nodI (n : Tr) : IT := ⟨false, n.k == 2, n.key, n.val⟩
def weave : List Tr → List Tr → List IT
  | e :: es, n :: ns => cutI e ++ nodI n :: weave es ns
  | e :: _, [] => cutI e
  | [], _ => []
theorem weave_app : ∀ (es ns es' ns' : List Tr) (n : Tr), es.length = ns.length + 1 → weave (es ++ es') (ns ++ n :: ns') = weave es ns ++ nodI n :: weave es' ns' := by
  intro es
  induction es with
  | nil => intro ns es' ns' n h; simp at h
  | cons e es ih =>
    intro ns es' ns' n h
    cases ns with
    | nil =>
      have : es = [] := List.eq_nil_of_length_eq_zero (by simpa using h)
      subst this
      rfl
    | cons m ns =>
      have := ih ns es' ns' n (by simpa using h)
      show cutI e ++ nodI m :: weave (es ++ es') (ns ++ n :: ns') = (cutI e ++ nodI m :: weave es ns) ++ nodI n :: weave es' ns'
      rw [this]
      simp
theorem items_weave (t : Tr) : formedT t = true → itemsT t = weave (endsT t) (listT t) ∧ (endsT t).length = (listT t).length + 1 := by
  induction t using Tr.ind with
  | h t ih =>
  intro hf
  obtain ⟨hp, hk⟩ := formed_kids hf
  rcases part_kids hp with ⟨h0, k0 | k3⟩ | ⟨h2, hk12⟩
  · rw [itemsT_0 k0, endsT_0 h0, listT_0 h0]
    exact ⟨by simp [weave, cutI, k0], rfl⟩
  · rw [itemsT_3 k3, endsT_0 h0, listT_0 h0]
    exact ⟨by simp [weave, cutI, k3], rfl⟩
  · obtain ⟨a1, a2⟩ := ih _ (List.getElem_mem (by omega : 0 < t.kids.length)) (hk 0 (by omega))
    obtain ⟨b1, b2⟩ := ih _ (List.getElem_mem (by omega : 1 < t.kids.length)) (hk 1 (by omega))
    rw [itemsT_node (by omega) (by omega) h2, endsT_2 h2, listT_2 h2, a1, b1]
    refine ⟨(weave_app _ _ _ _ _ a2).symm, ?_⟩
    rw [List.length_append, List.length_append, List.length_cons, a2, b2]
    omega
theorem keys_weave : ∀ (es ns : List Tr), es.length = ns.length + 1 → keysI (weave es ns) = ns.map nodI := by
  intro es
  induction es with
  | nil => intro ns h; simp at h
  | cons e es ih =>
    intro ns h
    have hc : ∀ l : List IT, keysI (cutI e ++ l) = keysI l := by
      intro l
      unfold keysI cutI
      split <;> simp
    cases ns with
    | nil =>
      have := hc []
      rw [List.append_nil] at this
      exact this
    | cons n ns =>
      show keysI (cutI e ++ nodI n :: weave es ns) = _
      rw [hc]
      have := ih ns (by simpa using h)
      unfold keysI at this ⊢
      rw [List.filter_cons_of_pos (by simp [nodI]), this]
      rfl
/-- The keys of the nodes rise at a place. -/
def condN (ns : List Tr) (i : Nat) : Bool := i == 0 || ltL (ns.getD (i - 1) (.mk 0 [] [] [] [])).key (ns.getD i (.mk 0 [] [] [] [])).key
theorem rise_weave {t : Tr} (hf : formedT t = true) : riseI (itemsT t) = (List.range (listT t).length).all (condN (listT t)) := by
  obtain ⟨h1, h2⟩ := items_weave t hf
  have hk := keys_weave _ _ h2
  rw [← h1] at hk
  unfold riseI
  rw [hk, List.length_map]
  refine Bool.eq_iff_iff.2 ?_
  rw [List.all_eq_true, List.all_eq_true]
  have hg : ∀ i, (((listT t).map nodI).getD i ⟨false, false, [], []⟩).key = ((listT t).getD i (.mk 0 [] [] [] [])).key := by
    intro i
    rw [List.getD, List.getD, List.getElem?_map]
    cases (listT t)[i]? <;> rfl
  refine forall_congr' fun i => forall_congr' fun _ => ?_
  unfold condN
  rw [hg, hg]
/-- Nothing of the span can lie where a part was cut out. -/
def gapB (f t : List Int) (o : Bool) (low : List Int) (has : Bool) (ns : List Tr) (i : Nat) (e : Tr) : Bool :=
  e.k != 3 || emptyS f t o (if i = 0 then low else (ns.getD (i - 1) (.mk 0 [] [] [] [])).key) (ns.getD i (.mk 0 [] [] [] [])).key (has || decide (0 < i)) (decide (i < ns.length))
def darkB (f t : List Int) (o : Bool) (n : Tr) : Bool := n.k == 2 && inS f t o n.key
def takeB (f t : List Int) (o : Bool) (n : Tr) : Bool := n.k == 1 && inS f t o n.key
def kvT (n : Tr) : KV := (n.key, n.val)
def covG (f t : List Int) (o : Bool) : List Int → Bool → List Tr → List Tr → Bool
  | low, has, e :: es, n :: ns => (e.k != 3 || emptyS f t o low n.key has true) && !darkB f t o n && covG f t o n.key true es ns
  | low, has, e :: _, [] => e.k != 3 || emptyS f t o low [] has false
  | _, _, [], _ => true
theorem scan_weave (f t : List Int) (o : Bool) : ∀ (es ns : List Tr) (low : List Int) (has : Bool), es.length = ns.length + 1 → (∀ n ∈ ns, n.k = 1 ∨ n.k = 2) →
    scanI f t o low has (weave es ns) = if covG f t o low has es ns then some ((ns.filter (takeB f t o)).map kvT) else none := by
  intro es
  induction es with
  | nil => intro ns low has h; simp at h
  | cons e es ih =>
    intro ns low has h hn
    cases ns with
    | nil =>
      show scanI f t o low has (cutI e) = if (e.k != 3 || emptyS f t o low [] has false) then some [] else none
      unfold cutI
      by_cases h3 : e.k = 3
      · rw [if_pos h3, scan_cut rfl, h3]
        rfl
      · rw [if_neg h3, scanI]
        have : (e.k != 3) = true := by simpa using h3
        rw [this]
        rfl
    | cons n ns =>
      have hr := ih ns n.key true (by simpa using h) (fun x hx => hn x (List.mem_cons_of_mem _ hx))
      have hkey : ∀ low has, scanI f t o low has (nodI n :: weave es ns) = if (!darkB f t o n && covG f t o n.key true es ns) then some (((n :: ns).filter (takeB f t o)).map kvT) else none := by
        intro low has
        rw [scan_key rfl]
        show (if inS f t o n.key = true then _ else scanI f t o n.key true (weave es ns)) = _
        rw [hr]
        rw [List.filter_cons]
        have e1 : takeB f t o n = (n.k == 1 && inS f t o n.key) := rfl
        have e2 : darkB f t o n = (n.k == 2 && inS f t o n.key) := rfl
        rw [e1, e2]
        rcases hn n List.mem_cons_self with k1 | k2
        · rw [k1]
          cases hi : inS f t o n.key with
          | false => simp
          | true =>
            have e3 : (nodI n).dark = false := by simp [nodI, k1]
            rw [if_pos rfl, e3, if_neg (by simp)]
            show (scanI f t o n.key true (weave es ns)).map _ = _
            rw [hr]
            cases covG f t o n.key true es ns <;> simp [nodI, kvT]
        · rw [k2]
          cases hi : inS f t o n.key with
          | false => simp
          | true => simp [nodI, k2]
      show scanI f t o low has (cutI e ++ nodI n :: weave es ns) = if ((e.k != 3 || emptyS f t o low n.key has true) && !darkB f t o n && covG f t o n.key true es ns) then _ else none
      unfold cutI
      by_cases h3 : e.k = 3
      · rw [if_pos h3, List.singleton_append, scan_cut rfl, hkey]
        have e1 : nextI (nodI n :: weave es ns) = (n.key, true) := by rw [nextI]; rfl
        rw [e1, h3]
        cases emptyS f t o low n.key has true <;> simp
      · rw [if_neg h3, List.nil_append, hkey]
        have : (e.k != 3) = true := by simpa using h3
        rw [this]
        simp
theorem cov_gaps (f t : List Int) (o : Bool) : ∀ (es ns : List Tr) (low : List Int) (has : Bool) (hl : es.length = ns.length + 1),
    covG f t o low has es ns = true ↔ (∀ n ∈ ns, darkB f t o n = false) ∧ ∀ i (hi : i < es.length), gapB f t o low has ns i es[i] = true := by
  intro es
  induction es with
  | nil => intro ns low has h; simp at h
  | cons e es ih =>
    intro ns low has h
    cases ns with
    | nil =>
      have : es = [] := List.eq_nil_of_length_eq_zero (by simpa using h)
      subst this
      have e0 : (Tr.mk 0 [] [] [] []).key = [] := rfl
      show (e.k != 3 || emptyS f t o low [] has false) = true ↔ _
      constructor
      · intro q
        refine ⟨fun n hn => (by cases hn), fun i hi => ?_⟩
        have : i = 0 := by simpa using hi
        subst this
        simpa [gapB, e0] using q
      · rintro ⟨-, q⟩
        have := q 0 (by simp)
        simpa [gapB, e0] using this
    | cons n ns =>
      have hr := ih ns n.key true (by simpa using h)
      have hs : ∀ i x, gapB f t o low has (n :: ns) (i + 1) x = gapB f t o n.key true ns i x := by
        intro i x
        unfold gapB
        cases i with
        | zero => simp
        | succ i => simp
      have h0 : gapB f t o low has (n :: ns) 0 e = (e.k != 3 || emptyS f t o low n.key has true) := by simp [gapB]
      show ((e.k != 3 || emptyS f t o low n.key has true) && !darkB f t o n && covG f t o n.key true es ns) = true ↔ _
      rw [Bool.and_eq_true, Bool.and_eq_true, hr, ← h0]
      constructor
      · rintro ⟨⟨q0, q1⟩, q2, q3⟩
        refine ⟨fun m hm => ?_, fun i hi => ?_⟩
        · rcases List.mem_cons.1 hm with rfl | hm
          · simpa using q1
          · exact q2 m hm
        · cases i with
          | zero => exact q0
          | succ i =>
            rw [hs]
            exact q3 i (by simpa using hi)
      · rintro ⟨q1, q2⟩
        refine ⟨⟨q2 0 (by simp), by simpa using q1 n List.mem_cons_self⟩, fun m hm => q1 m (List.mem_cons_of_mem _ hm), fun i hi => ?_⟩
        have := q2 (i + 1) (by simpa using hi)
        rw [hs] at this
        exact this
theorem list_kinds (t : Tr) : formedT t = true → ∀ n ∈ listT t, n.k = 1 ∨ n.k = 2 := by
  induction t using Tr.ind with
  | h t ih =>
  intro hf n hn
  obtain ⟨hp, hk⟩ := formed_kids hf
  rcases part_kids hp with ⟨h0, _⟩ | ⟨h2, hk12⟩
  · rw [listT_0 h0] at hn
    cases hn
  · rw [listT_2 h2, List.mem_append, List.mem_cons] at hn
    rcases hn with hn | rfl | hn
    · exact ih _ (List.getElem_mem (by omega : 0 < t.kids.length)) (hk 0 (by omega)) n hn
    · omega
    · exact ih _ (List.getElem_mem (by omega : 1 < t.kids.length)) (hk 1 (by omega)) n hn
/-- Does a proof cover a span, by its nodes and the parts between them? -/
def CovT (f t : List Int) (o : Bool) (p : Tr) : Prop := (∀ n ∈ listT p, darkB f t o n = false) ∧ ∀ i (hi : i < (endsT p).length), gapB f t o [] false (listT p) i (endsT p)[i] = true
theorem scan_cov {f t : List Int} {o : Bool} {p : Tr} (hf : formedT p = true) (h : CovT f t o p) : scanI f t o [] false (itemsT p) = some (((listT p).filter (takeB f t o)).map kvT) := by
  obtain ⟨h1, h2⟩ := items_weave p hf
  rw [h1, scan_weave f t o _ _ _ _ h2 (list_kinds p hf), if_pos ((cov_gaps f t o _ _ _ _ h2).2 h)]
theorem scan_not {f t : List Int} {o : Bool} {p : Tr} (hf : formedT p = true) (h : ¬ CovT f t o p) : scanI f t o [] false (itemsT p) = none := by
  obtain ⟨h1, h2⟩ := items_weave p hf
  rw [h1, scan_weave f t o _ _ _ _ h2 (list_kinds p hf), if_neg (fun q => h ((cov_gaps f t o _ _ _ _ h2).1 q))]
end Go.Proofs.YtlbiefddcimdgaaDoor

/- The contracts of the program's checks of trees. -/
namespace Go.Proofs.YtlbiefddcimdgaaDoor
open Go.RowKit
set_option linter.unusedVariables false

/-- A pointer to a variable. -/
def ptrV (g : Nat) : Value := .pointer (some ⟨g, 0, none⟩)
/-- Counts a part as a node by its kind? -/
def nodeK (t : Tr) : Bool := t.k == 1 || t.k == 2
/-- Is a part told itself? -/
def toldK (t : Tr) : Bool := t.k != 2 && t.k != 3
/-- Is a part told itself, or has its digest the width? -/
def fitsK (k : Nat) (t : Tr) : Bool := toldK t || decide (t.dig.length = k)
/-- All parts of a tree. -/
def allT (p : Tr → Bool) (t : Tr) : Bool := t.fold fun t rs => p t && rs.all id
theorem allT_eq (p : Tr → Bool) (t : Tr) : allT p t = (p t && t.kids.all (allT p)) := by
  unfold allT
  rw [Tr.fold_eq]
  simp [List.all_map, Function.comp_def]
theorem allT_part (t : Tr) : allT partB t = formedT t := rfl
theorem allT_told : ∀ t : Tr, formedT t = true → allT toldK t = fullT t := by
  intro t
  induction t using Tr.ind with
  | h t ih =>
  intro hf
  obtain ⟨hp, hk⟩ := formed_kids hf
  rw [allT_eq, fullT_eq]
  have e1 : toldK t = decide (t.k ≤ 1) := by
    unfold toldK
    rcases part_kids hp with ⟨_, h | h⟩ | ⟨_, h | h⟩ <;> rw [h] <;> rfl
  have e2 : t.kids.all (allT toldK) = t.kids.all fullT := by
    rw [Bool.eq_iff_iff, List.all_eq_true, List.all_eq_true]
    constructor
    · intro h x hx
      obtain ⟨i, hi, rfl⟩ := List.getElem_of_mem hx
      rw [← ih _ hx (hk i hi)]
      exact h _ hx
    · intro h x hx
      obtain ⟨i, hi, rfl⟩ := List.getElem_of_mem hx
      rw [ih _ hx (hk i hi)]
      exact h _ hx
  rw [e1, e2]

set_option maxRecDepth 100000 in
set_option maxHeartbeats 4000000 in
theorem isNode_any (t : Tr) (h : TH) (w : World) (ht : InTree w h t) : Calls Tryd.prog 55 #[h.v] w (Says w (.bool (nodeK t))) := by
  unfold TH.v
  obtain ⟨H, hp⟩ := ht.parts
  have HK := Lib.hid hp.hk
  have hk1 := hp.hk1
  have hk2 := hp.hk2
  clear hp ht
  have hbox := Box.new w 27 h
  obtain ⟨x0, x1, x2, x3, x4⟩ := hbox.cells
  clear hbox
  have hw1 : Below w.heap.size w (w.alloc (.cells #[.int .i64 h.k, .slice h.ka h.kn h.kc, .slice h.va h.vn h.vc, .slice h.da h.dn h.dc, .slice h.ta h.tn h.tc] 27)) := (Below.refl _ _).alloc (Nat.le_refl _) _
  have HB := Lib.hid hw1
  clear hw1
  go_enter Tryd.func55, Tryd.ntmps55
  cases f1 : (h.k == 1)
  · go_wp2_with fail
    go_ret
    refine ⟨?_, HB.out⟩
    unfold nodeK
    rw [← HK.out, f1]
    rfl
  · go_wp2_with fail
    go_ret
    refine ⟨?_, HB.out⟩
    unfold nodeK
    rw [← HK.out, f1]
    rfl

set_option maxRecDepth 100000 in
set_option maxHeartbeats 4000000 in
theorem isTold_any (t : Tr) (h : TH) (w : World) (ht : InTree w h t) : Calls Tryd.prog 40 #[h.v] w (Says w (.bool (toldK t))) := by
  unfold TH.v
  obtain ⟨H, hp⟩ := ht.parts
  have HK := Lib.hid hp.hk
  have hk1 := hp.hk1
  have hk2 := hp.hk2
  clear hp ht
  have hbox := Box.new w 27 h
  obtain ⟨x0, x1, x2, x3, x4⟩ := hbox.cells
  clear hbox
  have hw1 : Below w.heap.size w (w.alloc (.cells #[.int .i64 h.k, .slice h.ka h.kn h.kc, .slice h.va h.vn h.vc, .slice h.da h.dn h.dc, .slice h.ta h.tn h.tc] 27)) := (Below.refl _ _).alloc (Nat.le_refl _) _
  have HB := Lib.hid hw1
  clear hw1
  go_enter Tryd.func40, Tryd.ntmps40
  cases f1 : (h.k == 2)
  · have f2 : (h.k != 2) = true := by rw [bne, f1]; rfl
    go_wp2_with fail
    go_ret
    refine ⟨?_, HB.out⟩
    unfold toldK
    rw [← HK.out, f2]
    rfl
  · have f2 : (h.k != 2) = false := by rw [bne, f1]; rfl
    go_wp2_with fail
    go_ret
    refine ⟨?_, HB.out⟩
    unfold toldK
    rw [← HK.out, f2]
    rfl

set_option maxRecDepth 100000 in
set_option maxHeartbeats 4000000 in
theorem wellFormed_any (t : Tr) (h : TH) (w : World) (ht : InTree w h t) : Calls Tryd.prog 66 #[h.v] w (Says w (.bool (partB t))) := by
  unfold TH.v
  obtain ⟨H, hp⟩ := ht.parts
  have hk1 := hp.hk1
  have hk2 := hp.hk2
  have HI := Lib.hid (partB_head hp)
  clear hp ht
  have hbox := Box.new w 27 h
  obtain ⟨x0, x1, x2, x3, x4⟩ := hbox.cells
  clear hbox
  have hw1 : Below w.heap.size w (w.alloc (.cells #[.int .i64 h.k, .slice h.ka h.kn h.kc, .slice h.va h.vn h.vc, .slice h.da h.dn h.dc, .slice h.ta h.tn h.tc] 27)) := (Below.refl _ _).alloc (Nat.le_refl _) _
  have HB := Lib.hid (fun m => below_drewN hw1 m)
  clear hw1
  go_enter Tryd.func66, Tryd.ntmps66
  go_upto_region 1 with fail
  go_quiet (fail)
  cases k0 : (h.k == 0)
  · cases k1 : (h.k == 1)
    · cases k2 : (h.k == 2)
      · cases k3 : (h.k == 3)
        · go_wp2_with fail
          go_ret
          refine ⟨?_, HB.out _⟩
          rw [HI.out]
          simp [k0, k1, k2, k3]
        · cases f5 : ((h.kn : Int) == 0)
          · go_wp2_with fail
            go_ret
            refine ⟨?_, HB.out _⟩
            rw [HI.out]
            simp [k0, k1, k2, k3, f5]
          · cases f6 : ((h.vn : Int) == 0)
            · go_wp2_with fail
              go_ret
              refine ⟨?_, HB.out _⟩
              rw [HI.out]
              simp [k0, k1, k2, k3, f6]
            · cases f7 : ((h.tn : Int) == 0)
              · go_wp2_with fail
                go_ret
                refine ⟨?_, HB.out _⟩
                rw [HI.out]
                simp [k0, k1, k2, k3, f7]
              · go_wp2_with fail
                go_ret
                refine ⟨?_, HB.out _⟩
                rw [HI.out]
                simp [k0, k1, k2, k3, f5, f6, f7]
      · by_cases f5 : (h.kn : Int) ≤ 80
        · cases f6 : ((h.vn : Int) == 0)
          · go_wp2_with fail
            go_ret
            refine ⟨?_, HB.out _⟩
            rw [HI.out]
            simp [k0, k1, k2, f6]
          · cases f7 : ((h.tn : Int) == 2)
            · go_wp2_with fail
              go_ret
              refine ⟨?_, HB.out _⟩
              rw [HI.out]
              simp [k0, k1, k2, f7]
            · go_wp2_with fail
              go_ret
              refine ⟨?_, HB.out _⟩
              rw [HI.out]
              simp [k0, k1, k2, f5, f6, f7]
        · go_wp2_with fail
          go_ret
          refine ⟨?_, HB.out _⟩
          rw [HI.out]
          simp [k0, k1, k2, show ¬ (h.kn : Int) ≤ 80 by omega]
    · by_cases f5 : (h.kn : Int) ≤ 80
      · by_cases f6 : (h.vn : Int) ≤ 1024
        · cases f7 : ((h.dn : Int) == 0)
          · go_wp2_with fail
            go_ret
            refine ⟨?_, HB.out _⟩
            rw [HI.out]
            simp [k0, k1, f7]
          · cases f8 : ((h.tn : Int) == 2)
            · go_wp2_with fail
              go_ret
              refine ⟨?_, HB.out _⟩
              rw [HI.out]
              simp [k0, k1, f8]
            · go_wp2_with fail
              go_ret
              refine ⟨?_, HB.out _⟩
              rw [HI.out]
              simp [k0, k1, f5, f6, f7, f8]
        · go_wp2_with fail
          go_ret
          refine ⟨?_, HB.out _⟩
          rw [HI.out]
          simp [k0, k1, show ¬ (h.vn : Int) ≤ 1024 by omega]
      · go_wp2_with fail
        go_ret
        refine ⟨?_, HB.out _⟩
        rw [HI.out]
        simp [k0, k1, show ¬ (h.kn : Int) ≤ 80 by omega]
  · cases f5 : ((h.kn : Int) == 0)
    · go_wp2_with fail
      go_ret
      refine ⟨?_, HB.out _⟩
      rw [HI.out]
      simp [k0, f5]
    · cases f6 : ((h.vn : Int) == 0)
      · go_wp2_with fail
        go_ret
        refine ⟨?_, HB.out _⟩
        rw [HI.out]
        simp [k0, f6]
      · cases f7 : ((h.dn : Int) == 0)
        · go_wp2_with fail
          go_ret
          refine ⟨?_, HB.out _⟩
          rw [HI.out]
          simp [k0, f7]
        · cases f8 : ((h.tn : Int) == 0)
          · go_wp2_with fail
            go_ret
            refine ⟨?_, HB.out _⟩
            rw [HI.out]
            simp [k0, f8]
          · go_wp2_with fail
            go_ret
            refine ⟨?_, HB.out _⟩
            rw [HI.out]
            simp [k0, f5, f6, f7, f8]

/-- A variable that holds the closure of a function which calls itself, and has pointers to variables. -/
def CloV (fn : Nat) (caps : Array Value) : Value := .func (.func fn) #[] caps
theorem deep_node {t : Tr} (hn : nodeK t = false) (h0 : t.kids.length = 0) (b : Int) : deepT t b = false := by
  have hk : t.kids = [] := List.length_eq_zero_iff.1 h0
  have e : isNode t = false := by
    unfold nodeK at hn
    unfold isNode
    rw [Bool.or_eq_false_iff] at hn
    rw [hn.1, hn.2, hk]
    rfl
  rw [deepT_eq, e, hk]
  rfl
theorem node_is {t : Tr} (h : nodeK t = true ∨ t.kids.length ≠ 0) : isNode t = true := by
  unfold isNode
  rcases h with h | h
  · unfold nodeK at h
    rw [← Bool.or_assoc, h]
    rfl
  · have : decide (0 < t.kids.length) = true := by simp; omega
    rw [this]
    simp

set_option maxRecDepth 100000 in
set_option maxHeartbeats 4000000 in
theorem deepC_any : ∀ (t : Tr) (h : TH) (a : Int) (w : World) (gc : Nat), InTree w h t → 0 ≤ a → a ≤ 64 → Var1 w 98 gc (.func (.func 87) #[] #[.pointer (some ⟨gc, 0, none⟩)]) →
    Calls Tryd.prog 87 #[h.v, .int .i64 a, .pointer (some ⟨gc, 0, none⟩)] w (Says w (.bool (deepT t (64 - a)))) := by
  intro t
  induction t using Tr.ind with
  | h t ih =>
  intro h a w gc ht ha0 ha1 hcl
  unfold TH.v
  obtain ⟨H, hp⟩ := ht.parts
  have htl := hp.len
  have htc := hp.sl.le
  have htm := Nat.le_trans hp.sl.le hp.sl.max
  simp only [maxLen] at htm
  have HP := Lib.hid hp
  have HTT := Lib.hid ht
  have IH := Lib.hid ih
  have HCL := Lib.hid hcl
  clear hp ht ih hcl
  have hbox := Box.new w 27 h
  have HX := Lib.hid hbox
  obtain ⟨x0, x1, x2, x3, x4⟩ := hbox.cells
  clear hbox
  have hw1 : Below w.heap.size w (w.alloc (.cells #[.int .i64 h.k, .slice h.ka h.kn h.kc, .slice h.va h.vn h.vc, .slice h.da h.dn h.dc, .slice h.ta h.tn h.tc] 27)) := (Below.refl _ _).alloc (Nat.le_refl _) _
  have HB := Lib.hid hw1
  clear hw1
  go_enter Tryd.func87, Tryd.ntmps87
  cases hr : nodeK t
  · have HR := Lib.hid hr
    clear hr
    cases ftn : ((h.tn : Int) == 0)
    · have HNI : Hid (nodeK t = true ∨ t.kids.length ≠ 0) := Lib.hid (Or.inr (by rw [beq_eq_false_iff_ne] at ftn; omega))
      go_upto_if 18 with (first
        | (go_at_call 55
           refine (isNode_any t h _ (HTT.out.lower HB.out)).mono ?_
           rintro _ w1 ⟨rfl, hb1⟩
           rw [HR.out]
           have HB1 : Hid (Below w.heap.size w w1) := Lib.hid (HB.out.trans (hb1.mono HB.out.size))
           have hx1 := HX.out.below hb1 HX.out.lt
           obtain ⟨y0, y1, y2, y3, y4⟩ := hx1.cells
           have HX1 := Lib.hid hx1
           clear hb1 hx1 x0 x1 x2 x3 x4))
      have HN : Hid (isNode t = true) := Lib.hid (node_is HNI.out)
      by_cases fa : ¬ a = 64
      · have HNB : Hid ((isNode t && (64 - a == 0)) = false) := Lib.hid (by rw [Bool.and_eq_false_iff]; right; rw [beq_eq_false_iff_ne]; omega)
        have ha2 : a ≤ 63 := by omega
        have fb : (a == 64) = false := by simp [fa]
        rw [fb]
        have HCL1 := Lib.hid (HCL.out.below HB1.out HCL.out.lt)
        go_wp2_with fail
        clear y0 y1 y2 y3 y4 fa fb
        go_loopw [22] (fun s22 wx => ∃ i : Nat, i ≤ h.tn ∧ s22 = .int .i64 i ∧ Var1 wx 98 gc (.func (.func 87) #[] #[.pointer (some ⟨gc, 0, none⟩)]) ∧ Below w.heap.size w wx ∧ (t.kids.take i).any (fun x => deepT x (64 - (a + 1))) = false) (fun s22 _ => h.tn - (intOf s22).toNat)
        case atStart => exact ⟨0, by omega, rfl, HCL1.out, HB1.out, by simp⟩
        case round =>
          clear HCL1 HB1 HX1
          obtain ⟨i, hi, rfl, hcl, hbw, hall⟩ := hrel
          have hcc := hcl.cell
          have HC := Lib.hid hcl
          have HBW := Lib.hid hbw
          have HA := Lib.hid hall
          clear hcl hbw hall
          by_cases hlt : i < h.tn
          · have q1 : (i : Int) < (h.tn : Int) := by omega
            obtain ⟨g, off, hta, hg, hcs⟩ := (HP.out.below HBW.out).place (by omega)
            obtain ⟨k0, k1, k2, k3, k4⟩ := hcs i hlt
            have him : i < t.kids.length := by omega
            clear hcs
            rw [hta]
            go_upto_region 8 with fail
            have b2 : Below wr.heap.size wr (wr.alloc (.cells #[.int .i64 (H i).k, .slice (H i).ka (H i).kn (H i).kc, .slice (H i).va (H i).vn (H i).vc, .slice (H i).da (H i).dn (H i).dc, .slice (H i).ta (H i).tn (H i).tc] 27)) := (Below.refl _ _).alloc (Nat.le_refl _) _
            have bx := Box.new wr 27 (H i)
            generalize (wr.alloc (.cells #[.int .i64 (H i).k, .slice (H i).ka (H i).kn (H i).kc, .slice (H i).va (H i).vn (H i).vc, .slice (H i).da (H i).dn (H i).dc, .slice (H i).ta (H i).tn (H i).tc] 27)) = w2 at *
            have HB2 : Hid (Below w.heap.size w w2) := Lib.hid (HBW.out.trans (b2.mono HBW.out.size))
            have HC2 := Lib.hid (HC.out.below b2 HC.out.lt)
            have hc2 := HC2.out.cell
            obtain ⟨y0, y1, y2, y3, y4⟩ := bx.cells
            clear b2 bx k0 k1 k2 k3 k4 hcc
            go_upto_if 30 with (first
              | (go_at_call 87
                 refine (IH.out _ (List.getElem_mem him) (H i) (a + 1) _ gc ((HP.out.below HB2.out).kids i him) (by omega) (by omega) HC2.out).mono ?_
                 rintro _ w3 ⟨rfl, hb3⟩
                 have HB3 : Hid (Below w.heap.size w w3) := Lib.hid (HB2.out.trans (hb3.mono HB2.out.size))
                 have HC3 := Lib.hid (HC2.out.below hb3 HC2.out.lt)
                 generalize hr : deepT t.kids[i] (64 - (a + 1)) = q
                 have HQ := Lib.hid hr
                 clear hb3 hr))
            clear y0 y1 y2 y3 y4 hc2
            cases q
            · clear hta
              go_wp2_with fail
              exact ⟨⟨i + 1, by omega, by go_num, HC3.out, HB3.out, by rw [any_take _ _ i him, HA.out, HQ.out]; rfl⟩, by simp [intOf]; omega⟩
            · go_wp2_with fail
              go_ret
              have e : deepT t (64 - a) = true := by
                rw [deepT_eq, show (64 : Int) - a - 1 = 64 - (a + 1) by omega, any_at (p := fun x => deepT x (64 - (a + 1))) i him HQ.out, Bool.or_true]
              exact ⟨by rw [e]; rfl, HB3.out⟩
          · obtain rfl : i = h.tn := by omega
            have q1 : ¬ (h.tn : Int) < (h.tn : Int) := by omega
            go_wp2_with fail
            go_ret
            have hA := HA.out
            rw [List.take_of_length_le (by omega)] at hA
            have e : deepT t (64 - a) = false := by
              rw [deepT_eq, HNB.out, show (64 : Int) - a - 1 = 64 - (a + 1) by omega, hA]
              rfl
            exact ⟨by rw [e]; rfl, HBW.out⟩
      · obtain rfl : a = 64 := by omega
        go_wp2_with fail
        go_ret
        have e : deepT t 0 = true := by
          rw [deepT_eq, HN.out]
          rfl
        exact ⟨by rw [e]; rfl, HB1.out⟩
    · have HT0 : Hid (t.kids.length = 0) := Lib.hid (by rw [beq_iff_eq] at ftn; omega)
      go_upto_if 16 with (first
        | (go_at_call 55
           refine (isNode_any t h _ (HTT.out.lower HB.out)).mono ?_
           rintro _ w1 ⟨rfl, hb1⟩
           rw [HR.out]
           have HB1 : Hid (Below w.heap.size w w1) := Lib.hid (HB.out.trans (hb1.mono HB.out.size))
           have hx1 := HX.out.below hb1 HX.out.lt
           obtain ⟨y0, y1, y2, y3, y4⟩ := hx1.cells
           have HX1 := Lib.hid hx1
           clear hb1 hx1 x0 x1 x2 x3 x4))
      go_wp2_with fail
      go_ret
      exact ⟨by rw [deep_node HR.out HT0.out]; rfl, HB1.out⟩
  · have HR := Lib.hid hr
    have HNI : Hid (nodeK t = true ∨ t.kids.length ≠ 0) := Lib.hid (Or.inl hr)
    clear hr
    go_upto_if 18 with (first
      | (go_at_call 55
         refine (isNode_any t h _ (HTT.out.lower HB.out)).mono ?_
         rintro _ w1 ⟨rfl, hb1⟩
         rw [HR.out]
         have HB1 : Hid (Below w.heap.size w w1) := Lib.hid (HB.out.trans (hb1.mono HB.out.size))
         have hx1 := HX.out.below hb1 HX.out.lt
         obtain ⟨y0, y1, y2, y3, y4⟩ := hx1.cells
         have HX1 := Lib.hid hx1
         clear hb1 hx1 x0 x1 x2 x3 x4))
    have HN : Hid (isNode t = true) := Lib.hid (node_is HNI.out)
    by_cases fa : ¬ a = 64
    · have HNB : Hid ((isNode t && (64 - a == 0)) = false) := Lib.hid (by rw [Bool.and_eq_false_iff]; right; rw [beq_eq_false_iff_ne]; omega)
      have ha2 : a ≤ 63 := by omega
      have fb : (a == 64) = false := by simp [fa]
      rw [fb]
      have HCL1 := Lib.hid (HCL.out.below HB1.out HCL.out.lt)
      go_wp2_with fail
      clear y0 y1 y2 y3 y4 fa fb
      go_loopw [22] (fun s22 wx => ∃ i : Nat, i ≤ h.tn ∧ s22 = .int .i64 i ∧ Var1 wx 98 gc (.func (.func 87) #[] #[.pointer (some ⟨gc, 0, none⟩)]) ∧ Below w.heap.size w wx ∧ (t.kids.take i).any (fun x => deepT x (64 - (a + 1))) = false) (fun s22 _ => h.tn - (intOf s22).toNat)
      case atStart => exact ⟨0, by omega, rfl, HCL1.out, HB1.out, by simp⟩
      case round =>
        clear HCL1 HB1 HX1
        obtain ⟨i, hi, rfl, hcl, hbw, hall⟩ := hrel
        have hcc := hcl.cell
        have HC := Lib.hid hcl
        have HBW := Lib.hid hbw
        have HA := Lib.hid hall
        clear hcl hbw hall
        by_cases hlt : i < h.tn
        · have q1 : (i : Int) < (h.tn : Int) := by omega
          obtain ⟨g, off, hta, hg, hcs⟩ := (HP.out.below HBW.out).place (by omega)
          obtain ⟨k0, k1, k2, k3, k4⟩ := hcs i hlt
          have him : i < t.kids.length := by omega
          clear hcs
          rw [hta]
          go_upto_region 8 with fail
          have b2 : Below wr.heap.size wr (wr.alloc (.cells #[.int .i64 (H i).k, .slice (H i).ka (H i).kn (H i).kc, .slice (H i).va (H i).vn (H i).vc, .slice (H i).da (H i).dn (H i).dc, .slice (H i).ta (H i).tn (H i).tc] 27)) := (Below.refl _ _).alloc (Nat.le_refl _) _
          have bx := Box.new wr 27 (H i)
          generalize (wr.alloc (.cells #[.int .i64 (H i).k, .slice (H i).ka (H i).kn (H i).kc, .slice (H i).va (H i).vn (H i).vc, .slice (H i).da (H i).dn (H i).dc, .slice (H i).ta (H i).tn (H i).tc] 27)) = w2 at *
          have HB2 : Hid (Below w.heap.size w w2) := Lib.hid (HBW.out.trans (b2.mono HBW.out.size))
          have HC2 := Lib.hid (HC.out.below b2 HC.out.lt)
          have hc2 := HC2.out.cell
          obtain ⟨y0, y1, y2, y3, y4⟩ := bx.cells
          clear b2 bx k0 k1 k2 k3 k4 hcc
          go_upto_if 30 with (first
            | (go_at_call 87
               refine (IH.out _ (List.getElem_mem him) (H i) (a + 1) _ gc ((HP.out.below HB2.out).kids i him) (by omega) (by omega) HC2.out).mono ?_
               rintro _ w3 ⟨rfl, hb3⟩
               have HB3 : Hid (Below w.heap.size w w3) := Lib.hid (HB2.out.trans (hb3.mono HB2.out.size))
               have HC3 := Lib.hid (HC2.out.below hb3 HC2.out.lt)
               generalize hr : deepT t.kids[i] (64 - (a + 1)) = q
               have HQ := Lib.hid hr
               clear hb3 hr))
          clear y0 y1 y2 y3 y4 hc2
          cases q
          · clear hta
            go_wp2_with fail
            exact ⟨⟨i + 1, by omega, by go_num, HC3.out, HB3.out, by rw [any_take _ _ i him, HA.out, HQ.out]; rfl⟩, by simp [intOf]; omega⟩
          · go_wp2_with fail
            go_ret
            have e : deepT t (64 - a) = true := by
              rw [deepT_eq, show (64 : Int) - a - 1 = 64 - (a + 1) by omega, any_at (p := fun x => deepT x (64 - (a + 1))) i him HQ.out, Bool.or_true]
            exact ⟨by rw [e]; rfl, HB3.out⟩
        · obtain rfl : i = h.tn := by omega
          have q1 : ¬ (h.tn : Int) < (h.tn : Int) := by omega
          go_wp2_with fail
          go_ret
          have hA := HA.out
          rw [List.take_of_length_le (by omega)] at hA
          have e : deepT t (64 - a) = false := by
            rw [deepT_eq, HNB.out, show (64 : Int) - a - 1 = 64 - (a + 1) by omega, hA]
            rfl
          exact ⟨by rw [e]; rfl, HBW.out⟩
    · obtain rfl : a = 64 := by omega
      go_wp2_with fail
      go_ret
      have e : deepT t 0 = true := by
        rw [deepT_eq, HN.out]
        rfl
      exact ⟨by rw [e]; rfl, HB1.out⟩

set_option maxRecDepth 100000 in
set_option maxHeartbeats 4000000 in
theorem tooDeep_any (t : Tr) (h : TH) (w : World) (ht : InTree w h t) : Calls Tryd.prog 65 #[h.v] w (Says w (.bool (deepT t 64))) := by
  have hmf : ∀ (fn : Fn) (first cap : Array Value) (w : World), (Instr.makeFunc fn first cap).run Tryd.prog w = .ok (.func fn first cap) w := fun _ _ _ _ => rfl
  unfold TH.v
  have HTT := Lib.hid ht
  clear ht
  go_enter Tryd.func65, Tryd.ntmps65
  have hnf : Var1 ((w.alloc (.cells #[.int .i64 h.k, .slice h.ka h.kn h.kc, .slice h.va h.vn h.vc, .slice h.da h.dn h.dc, .slice h.ta h.tn h.tc] 27)).alloc (.cells #[.nilFunc] 98)) 98 (w.heap.size + 1) .nilFunc := by
    have := Var1.new (w.alloc (.cells #[.int .i64 h.k, .slice h.ka h.kn h.kc, .slice h.va h.vn h.vc, .slice h.da h.dn h.dc, .slice h.ta h.tn h.tc] 27)) 98 .nilFunc
    simpa using this
  have hbx : Box ((w.alloc (.cells #[.int .i64 h.k, .slice h.ka h.kn h.kc, .slice h.va h.vn h.vc, .slice h.da h.dn h.dc, .slice h.ta h.tn h.tc] 27)).alloc (.cells #[.nilFunc] 98)) 27 w.heap.size h := (Box.new w 27 h).below ((Below.refl _ _).alloc (Nat.le_refl _) _) (by simp)
  have hb2 : Below w.heap.size w ((w.alloc (.cells #[.int .i64 h.k, .slice h.ka h.kn h.kc, .slice h.va h.vn h.vc, .slice h.da h.dn h.dc, .slice h.ta h.tn h.tc] 27)).alloc (.cells #[.nilFunc] 98)) := ((Below.refl w.heap.size w).alloc (Nat.le_refl _) _).alloc (by simp) _
  go_upto_region 2 with fail
  generalize (w.alloc (.cells #[.int .i64 h.k, .slice h.ka h.kn h.kc, .slice h.va h.vn h.vc, .slice h.da h.dn h.dc, .slice h.ta h.tn h.tc] 27)).alloc (.cells #[.nilFunc] 98) = w2 at *
  have c0 := hnf.cell
  have c1 := hnf.frozen 0
  have HN := Lib.hid (hnf.set (.func (.func 87) #[] #[.pointer (some ⟨w.heap.size + 1, 0, none⟩)]))
  have hbx3 : Box (w2.setCell ⟨w.heap.size + 1, 0, none⟩ (.func (.func 87) #[] #[.pointer (some ⟨w.heap.size + 1, 0, none⟩)])) 27 w.heap.size h := (Below.heap_setCell w2 ⟨w.heap.size + 1, 0, none⟩ _ w.heap.size (by simp)).trans hbx
  have hb3 : Below w.heap.size w (w2.setCell ⟨w.heap.size + 1, 0, none⟩ (.func (.func 87) #[] #[.pointer (some ⟨w.heap.size + 1, 0, none⟩)])) := hb2.setCell (by simp) _
  clear hnf hbx hb2
  go_upto_region 3 with fail
  generalize (w2.setCell ⟨w.heap.size + 1, 0, none⟩ (.func (.func 87) #[] #[.pointer (some ⟨w.heap.size + 1, 0, none⟩)])) = w3 at *
  obtain ⟨x0, x1, x2, x3, x4⟩ := hbx3.cells
  have c2 := HN.out.cell
  have HB3 := Lib.hid hb3
  clear c0 c1 hbx3 hb3
  go_wp2_with (first
    | (go_at_call 87
       refine (deepC_any t h 0 _ (w.heap.size + 1) (HTT.out.lower HB3.out) (by omega) (by omega) HN.out).mono ?_
       rintro _ w4 ⟨rfl, hb4⟩
       have HB4 : Hid (Below w.heap.size w w4) := Lib.hid (HB3.out.trans (hb4.mono HB3.out.size))
       clear hb4))
  go_ret
  exact ⟨rfl, HB4.out⟩

set_option maxRecDepth 100000 in
set_option maxHeartbeats 4000000 in
theorem everyPartC : ∀ (t : Tr) (h : TH) (w : World) (gp ga : Nat), InTree w h t → Var1 w 29 gp (.func (.func 66) #[] #[]) → Var1 w 29 ga (.func (.func 67) #[] #[.pointer (some ⟨gp, 0, none⟩), .pointer (some ⟨ga, 0, none⟩)]) →
    Calls Tryd.prog 67 #[h.v, .pointer (some ⟨gp, 0, none⟩), .pointer (some ⟨ga, 0, none⟩)] w (Says w (.bool (allT partB t))) := by
  intro t
  induction t using Tr.ind with
  | h t ih =>
  intro h w gp ga ht hpv hcl
  unfold TH.v
  obtain ⟨H, hp⟩ := ht.parts
  have htl := hp.len
  have htc := hp.sl.le
  have htm := Nat.le_trans hp.sl.le hp.sl.max
  simp only [maxLen] at htm
  have HP := Lib.hid hp
  have HTT := Lib.hid ht
  have IH := Lib.hid ih
  have hbox := Box.new w 27 h
  have HX := Lib.hid hbox
  obtain ⟨x0, x1, x2, x3, x4⟩ := hbox.cells
  have hw1 : Below w.heap.size w (w.alloc (.cells #[.int .i64 h.k, .slice h.ka h.kn h.kc, .slice h.va h.vn h.vc, .slice h.da h.dn h.dc, .slice h.ta h.tn h.tc] 27)) := (Below.refl _ _).alloc (Nat.le_refl _) _
  have HB := Lib.hid hw1
  have hpv1 := hpv.below hw1 hpv.lt
  have HCL1 := Lib.hid (hcl.below hw1 hcl.lt)
  have HPV1 := Lib.hid hpv1
  have xp := hpv1.cell
  skip
  clear hp ht ih hcl hpv hpv1 hw1 hbox
  go_enter Tryd.func67, Tryd.ntmps67
  go_upto_if 10 with (first
    | (go_at_call 66
       refine (wellFormed_any t h _ (HTT.out.lower HB.out)).mono ?_
       rintro _ w1 ⟨rfl, hb1⟩
       have HB1 : Hid (Below w.heap.size w w1) := Lib.hid (HB.out.trans (hb1.mono HB.out.size))
       have HX1 := Lib.hid (HX.out.below hb1 HX.out.lt)
       have HCL2 := Lib.hid (HCL1.out.below hb1 HCL1.out.lt)
       have HPV2 := Lib.hid (HPV1.out.below hb1 HPV1.out.lt)
       skip
       generalize hr : partB t = r
       have HR := Lib.hid hr
       clear hb1 hr))
  clear x0 x1 x2 x3 x4 xp HX HB HCL1 HPV1
  cases r
  · go_wp2_with fail
    go_ret
    have e : allT partB t = false := by rw [allT_eq, HR.out]; rfl
    exact ⟨by rw [e]; rfl, HB1.out⟩
  simp only [Bool.not_true]
  have x4 := HX1.out.cells.2.2.2.2
  go_wp2_with fail
  clear x4 HX1
  go_loopw [14] (fun s14 wx => ∃ i : Nat, i ≤ h.tn ∧ s14 = .int .i64 i ∧ Var1 wx 29 gp (.func (.func 66) #[] #[]) ∧ Var1 wx 29 ga (.func (.func 67) #[] #[.pointer (some ⟨gp, 0, none⟩), .pointer (some ⟨ga, 0, none⟩)]) ∧ Below w.heap.size w wx ∧ (t.kids.take i).all (allT partB) = true) (fun s14 _ => h.tn - (intOf s14).toNat)
  case atStart => exact ⟨0, by omega, rfl, HPV2.out, HCL2.out, HB1.out, by simp⟩
  case round =>
    clear HCL2 HB1 HPV2
    obtain ⟨i, hi, rfl, hpv, hcl, hbw, hall⟩ := hrel
    have hcc := hcl.cell
    have HC := Lib.hid hcl
    have HV := Lib.hid hpv
    have HBW := Lib.hid hbw
    have HA := Lib.hid hall
    skip
    clear hcl hbw hall hpv
    by_cases hlt : i < h.tn
    · have q1 : (i : Int) < (h.tn : Int) := by omega
      obtain ⟨g, off, hta, hg, hcs⟩ := (HP.out.below HBW.out).place (by omega)
      obtain ⟨k0, k1, k2, k3, k4⟩ := hcs i hlt
      have him : i < t.kids.length := by omega
      clear hcs
      rw [hta]
      go_upto_region 6 with fail
      have b2 : Below wr.heap.size wr (wr.alloc (.cells #[.int .i64 (H i).k, .slice (H i).ka (H i).kn (H i).kc, .slice (H i).va (H i).vn (H i).vc, .slice (H i).da (H i).dn (H i).dc, .slice (H i).ta (H i).tn (H i).tc] 27)) := (Below.refl _ _).alloc (Nat.le_refl _) _
      have bx := Box.new wr 27 (H i)
      generalize (wr.alloc (.cells #[.int .i64 (H i).k, .slice (H i).ka (H i).kn (H i).kc, .slice (H i).va (H i).vn (H i).vc, .slice (H i).da (H i).dn (H i).dc, .slice (H i).ta (H i).tn (H i).tc] 27)) = w2 at *
      have HB2 : Hid (Below w.heap.size w w2) := Lib.hid (HBW.out.trans (b2.mono HBW.out.size))
      have HC2 := Lib.hid (HC.out.below b2 HC.out.lt)
      have HV2 := Lib.hid (HV.out.below b2 HV.out.lt)
      skip
      have hc2 := HC2.out.cell
      obtain ⟨y0, y1, y2, y3, y4⟩ := bx.cells
      clear b2 bx k0 k1 k2 k3 k4 hcc
      go_upto_if 21 with (first
        | (go_at_call 67
           refine (IH.out _ (List.getElem_mem him) (H i) _ gp ga ((HP.out.below HB2.out).kids i him) HV2.out HC2.out).mono ?_
           rintro _ w3 ⟨rfl, hb3⟩
           have HB3 : Hid (Below w.heap.size w w3) := Lib.hid (HB2.out.trans (hb3.mono HB2.out.size))
           have HC3 := Lib.hid (HC2.out.below hb3 HC2.out.lt)
           have HV3 := Lib.hid (HV2.out.below hb3 HV2.out.lt)
           skip
           generalize hr : allT partB t.kids[i] = q
           have HQ := Lib.hid hr
           clear hb3 hr))
      clear y0 y1 y2 y3 y4 hc2
      cases q
      · go_wp2_with fail
        go_ret
        have e : allT partB t = false := by rw [allT_eq, all_not i him HQ.out, Bool.and_false]
        exact ⟨by rw [e]; rfl, HB3.out⟩
      · clear hta
        go_wp2_with fail
        exact ⟨⟨i + 1, by omega, by go_num, HV3.out, HC3.out, HB3.out, by rw [all_take _ _ i him, HA.out, HQ.out]; rfl⟩, by simp [intOf]; omega⟩
    · obtain rfl : i = h.tn := by omega
      have q1 : ¬ (h.tn : Int) < (h.tn : Int) := by omega
      go_wp2_with fail
      go_ret
      have hA := HA.out
      rw [List.take_of_length_le (by omega)] at hA
      have e : allT partB t = true := by rw [allT_eq, HR.out, hA]; rfl
      exact ⟨by rw [e]; rfl, HBW.out⟩
set_option maxRecDepth 100000 in
set_option maxHeartbeats 4000000 in
theorem everyPart (t : Tr) (h : TH) (w : World) (ht : InTree w h t) : Calls Tryd.prog 41 #[h.v, .func (.func 66) #[] #[]] w (Says w (.bool (allT partB t))) := by
  have hmf : ∀ (fn : Fn) (first cap : Array Value) (w : World), (Instr.makeFunc fn first cap).run Tryd.prog w = .ok (.func fn first cap) w := fun _ _ _ _ => rfl
  unfold TH.v
  have HTT := Lib.hid ht
  clear ht
  go_enter Tryd.func41, Tryd.ntmps41
  have hbw1 : Below w.heap.size w (w.alloc (.cells #[.int .i64 h.k, .slice h.ka h.kn h.kc, .slice h.va h.vn h.vc, .slice h.da h.dn h.dc, .slice h.ta h.tn h.tc] 27)) := (Below.refl _ _).alloc (Nat.le_refl _) _
  have hbx1 := Box.new w 27 h
  have e1 : (w.alloc (.cells #[.int .i64 h.k, .slice h.ka h.kn h.kc, .slice h.va h.vn h.vc, .slice h.da h.dn h.dc, .slice h.ta h.tn h.tc] 27)).heap.size = w.heap.size + 1 := by simp
  have hbw2 : Below w.heap.size w ((w.alloc (.cells #[.int .i64 h.k, .slice h.ka h.kn h.kc, .slice h.va h.vn h.vc, .slice h.da h.dn h.dc, .slice h.ta h.tn h.tc] 27)).alloc (.cells #[.func (.func 66) #[] #[]] 29)) := hbw1.alloc (by rw [e1]; omega) _
  have hbx2 := hbx1.below ((Below.refl _ _).alloc (Nat.le_refl _) (.cells #[.func (.func 66) #[] #[]] 29)) hbx1.lt
  have hpv2 := Var1.new (w.alloc (.cells #[.int .i64 h.k, .slice h.ka h.kn h.kc, .slice h.va h.vn h.vc, .slice h.da h.dn h.dc, .slice h.ta h.tn h.tc] 27)) 29 (.func (.func 66) #[] #[])
  have e2 : ((w.alloc (.cells #[.int .i64 h.k, .slice h.ka h.kn h.kc, .slice h.va h.vn h.vc, .slice h.da h.dn h.dc, .slice h.ta h.tn h.tc] 27)).alloc (.cells #[.func (.func 66) #[] #[]] 29)).heap.size = w.heap.size + 2 := by simp
  have hbw3 : Below w.heap.size w (((w.alloc (.cells #[.int .i64 h.k, .slice h.ka h.kn h.kc, .slice h.va h.vn h.vc, .slice h.da h.dn h.dc, .slice h.ta h.tn h.tc] 27)).alloc (.cells #[.func (.func 66) #[] #[]] 29)).alloc (.cells #[.nilFunc] 29)) := hbw2.alloc (by rw [e2]; omega) _
  have hbx3 := hbx2.below ((Below.refl _ _).alloc (Nat.le_refl _) (.cells #[.nilFunc] 29)) hbx2.lt
  have hpv3 := hpv2.below ((Below.refl _ _).alloc (Nat.le_refl _) (.cells #[.nilFunc] 29)) hpv2.lt
  have hnf := Var1.new ((w.alloc (.cells #[.int .i64 h.k, .slice h.ka h.kn h.kc, .slice h.va h.vn h.vc, .slice h.da h.dn h.dc, .slice h.ta h.tn h.tc] 27)).alloc (.cells #[.func (.func 66) #[] #[]] 29)) 29 .nilFunc
  rw [e2] at hnf
  rw [e1] at hpv3
  clear hbw1 hbx1 e1 hbw2 hbx2 hpv2 e2
  go_upto_region 2 with fail
  generalize (((w.alloc (.cells #[.int .i64 h.k, .slice h.ka h.kn h.kc, .slice h.va h.vn h.vc, .slice h.da h.dn h.dc, .slice h.ta h.tn h.tc] 27)).alloc (.cells #[.func (.func 66) #[] #[]] 29)).alloc (.cells #[.nilFunc] 29)) = w2 at *
  have c0 := hnf.cell
  have c1 := hnf.frozen 0
  have hn4 := hnf.set (.func (.func 67) #[] #[.pointer (some ⟨w.heap.size + 1, 0, none⟩), .pointer (some ⟨w.heap.size + 2, 0, none⟩)])
  have hbx4 : Box (w2.setCell ⟨w.heap.size + 2, 0, none⟩ (.func (.func 67) #[] #[.pointer (some ⟨w.heap.size + 1, 0, none⟩), .pointer (some ⟨w.heap.size + 2, 0, none⟩)])) 27 w.heap.size h := (Below.heap_setCell w2 ⟨w.heap.size + 2, 0, none⟩ _ w.heap.size (by simp)).trans hbx3
  have hpv4 := hpv3.far (p := ⟨w.heap.size + 2, 0, none⟩) (by simp) (.func (.func 67) #[] #[.pointer (some ⟨w.heap.size + 1, 0, none⟩), .pointer (some ⟨w.heap.size + 2, 0, none⟩)])
  have hb4 : Below w.heap.size w (w2.setCell ⟨w.heap.size + 2, 0, none⟩ (.func (.func 67) #[] #[.pointer (some ⟨w.heap.size + 1, 0, none⟩), .pointer (some ⟨w.heap.size + 2, 0, none⟩)])) := hbw3.setCell (by simp) _
  clear hnf hbx3 hpv3 hbw3
  go_upto_region 3 with fail
  generalize (w2.setCell ⟨w.heap.size + 2, 0, none⟩ (.func (.func 67) #[] #[.pointer (some ⟨w.heap.size + 1, 0, none⟩), .pointer (some ⟨w.heap.size + 2, 0, none⟩)])) = w3 at *
  obtain ⟨x0, x1, x2, x3, x4⟩ := hbx4.cells
  have c2 := hn4.cell
  have HN := Lib.hid hn4
  have HPV := Lib.hid hpv4
  have HB3 := Lib.hid hb4
  skip
  clear c0 c1 hbx4 hb4 hpv4 hn4
  go_wp2_with (first
    | (go_at_call 67
       refine (everyPartC t h _ (w.heap.size + 1) (w.heap.size + 2) (HTT.out.lower HB3.out) HPV.out HN.out).mono ?_
       rintro _ w4 ⟨rfl, hb4⟩
       have HB4 : Hid (Below w.heap.size w w4) := Lib.hid (HB3.out.trans (hb4.mono HB3.out.size))
       clear hb4))
  go_ret
  exact ⟨rfl, HB4.out⟩

set_option maxRecDepth 100000 in
set_option maxHeartbeats 4000000 in
theorem everyToldC : ∀ (t : Tr) (h : TH) (w : World) (gp ga : Nat), InTree w h t → Var1 w 29 gp (.func (.func 40) #[] #[]) → Var1 w 29 ga (.func (.func 67) #[] #[.pointer (some ⟨gp, 0, none⟩), .pointer (some ⟨ga, 0, none⟩)]) →
    Calls Tryd.prog 67 #[h.v, .pointer (some ⟨gp, 0, none⟩), .pointer (some ⟨ga, 0, none⟩)] w (Says w (.bool (allT toldK t))) := by
  intro t
  induction t using Tr.ind with
  | h t ih =>
  intro h w gp ga ht hpv hcl
  unfold TH.v
  obtain ⟨H, hp⟩ := ht.parts
  have htl := hp.len
  have htc := hp.sl.le
  have htm := Nat.le_trans hp.sl.le hp.sl.max
  simp only [maxLen] at htm
  have HP := Lib.hid hp
  have HTT := Lib.hid ht
  have IH := Lib.hid ih
  have hbox := Box.new w 27 h
  have HX := Lib.hid hbox
  obtain ⟨x0, x1, x2, x3, x4⟩ := hbox.cells
  have hw1 : Below w.heap.size w (w.alloc (.cells #[.int .i64 h.k, .slice h.ka h.kn h.kc, .slice h.va h.vn h.vc, .slice h.da h.dn h.dc, .slice h.ta h.tn h.tc] 27)) := (Below.refl _ _).alloc (Nat.le_refl _) _
  have HB := Lib.hid hw1
  have hpv1 := hpv.below hw1 hpv.lt
  have HCL1 := Lib.hid (hcl.below hw1 hcl.lt)
  have HPV1 := Lib.hid hpv1
  have xp := hpv1.cell
  skip
  clear hp ht ih hcl hpv hpv1 hw1 hbox
  go_enter Tryd.func67, Tryd.ntmps67
  go_upto_if 10 with (first
    | (go_at_call 40
       refine (isTold_any t h _ (HTT.out.lower HB.out)).mono ?_
       rintro _ w1 ⟨rfl, hb1⟩
       have HB1 : Hid (Below w.heap.size w w1) := Lib.hid (HB.out.trans (hb1.mono HB.out.size))
       have HX1 := Lib.hid (HX.out.below hb1 HX.out.lt)
       have HCL2 := Lib.hid (HCL1.out.below hb1 HCL1.out.lt)
       have HPV2 := Lib.hid (HPV1.out.below hb1 HPV1.out.lt)
       skip
       generalize hr : toldK t = r
       have HR := Lib.hid hr
       clear hb1 hr))
  clear x0 x1 x2 x3 x4 xp HX HB HCL1 HPV1
  cases r
  · go_wp2_with fail
    go_ret
    have e : allT toldK t = false := by rw [allT_eq, HR.out]; rfl
    exact ⟨by rw [e]; rfl, HB1.out⟩
  simp only [Bool.not_true]
  have x4 := HX1.out.cells.2.2.2.2
  go_wp2_with fail
  clear x4 HX1
  go_loopw [14] (fun s14 wx => ∃ i : Nat, i ≤ h.tn ∧ s14 = .int .i64 i ∧ Var1 wx 29 gp (.func (.func 40) #[] #[]) ∧ Var1 wx 29 ga (.func (.func 67) #[] #[.pointer (some ⟨gp, 0, none⟩), .pointer (some ⟨ga, 0, none⟩)]) ∧ Below w.heap.size w wx ∧ (t.kids.take i).all (allT toldK) = true) (fun s14 _ => h.tn - (intOf s14).toNat)
  case atStart => exact ⟨0, by omega, rfl, HPV2.out, HCL2.out, HB1.out, by simp⟩
  case round =>
    clear HCL2 HB1 HPV2
    obtain ⟨i, hi, rfl, hpv, hcl, hbw, hall⟩ := hrel
    have hcc := hcl.cell
    have HC := Lib.hid hcl
    have HV := Lib.hid hpv
    have HBW := Lib.hid hbw
    have HA := Lib.hid hall
    skip
    clear hcl hbw hall hpv
    by_cases hlt : i < h.tn
    · have q1 : (i : Int) < (h.tn : Int) := by omega
      obtain ⟨g, off, hta, hg, hcs⟩ := (HP.out.below HBW.out).place (by omega)
      obtain ⟨k0, k1, k2, k3, k4⟩ := hcs i hlt
      have him : i < t.kids.length := by omega
      clear hcs
      rw [hta]
      go_upto_region 6 with fail
      have b2 : Below wr.heap.size wr (wr.alloc (.cells #[.int .i64 (H i).k, .slice (H i).ka (H i).kn (H i).kc, .slice (H i).va (H i).vn (H i).vc, .slice (H i).da (H i).dn (H i).dc, .slice (H i).ta (H i).tn (H i).tc] 27)) := (Below.refl _ _).alloc (Nat.le_refl _) _
      have bx := Box.new wr 27 (H i)
      generalize (wr.alloc (.cells #[.int .i64 (H i).k, .slice (H i).ka (H i).kn (H i).kc, .slice (H i).va (H i).vn (H i).vc, .slice (H i).da (H i).dn (H i).dc, .slice (H i).ta (H i).tn (H i).tc] 27)) = w2 at *
      have HB2 : Hid (Below w.heap.size w w2) := Lib.hid (HBW.out.trans (b2.mono HBW.out.size))
      have HC2 := Lib.hid (HC.out.below b2 HC.out.lt)
      have HV2 := Lib.hid (HV.out.below b2 HV.out.lt)
      skip
      have hc2 := HC2.out.cell
      obtain ⟨y0, y1, y2, y3, y4⟩ := bx.cells
      clear b2 bx k0 k1 k2 k3 k4 hcc
      go_upto_if 21 with (first
        | (go_at_call 67
           refine (IH.out _ (List.getElem_mem him) (H i) _ gp ga ((HP.out.below HB2.out).kids i him) HV2.out HC2.out).mono ?_
           rintro _ w3 ⟨rfl, hb3⟩
           have HB3 : Hid (Below w.heap.size w w3) := Lib.hid (HB2.out.trans (hb3.mono HB2.out.size))
           have HC3 := Lib.hid (HC2.out.below hb3 HC2.out.lt)
           have HV3 := Lib.hid (HV2.out.below hb3 HV2.out.lt)
           skip
           generalize hr : allT toldK t.kids[i] = q
           have HQ := Lib.hid hr
           clear hb3 hr))
      clear y0 y1 y2 y3 y4 hc2
      cases q
      · go_wp2_with fail
        go_ret
        have e : allT toldK t = false := by rw [allT_eq, all_not i him HQ.out, Bool.and_false]
        exact ⟨by rw [e]; rfl, HB3.out⟩
      · clear hta
        go_wp2_with fail
        exact ⟨⟨i + 1, by omega, by go_num, HV3.out, HC3.out, HB3.out, by rw [all_take _ _ i him, HA.out, HQ.out]; rfl⟩, by simp [intOf]; omega⟩
    · obtain rfl : i = h.tn := by omega
      have q1 : ¬ (h.tn : Int) < (h.tn : Int) := by omega
      go_wp2_with fail
      go_ret
      have hA := HA.out
      rw [List.take_of_length_le (by omega)] at hA
      have e : allT toldK t = true := by rw [allT_eq, HR.out, hA]; rfl
      exact ⟨by rw [e]; rfl, HBW.out⟩
set_option maxRecDepth 100000 in
set_option maxHeartbeats 4000000 in
theorem everyTold (t : Tr) (h : TH) (w : World) (ht : InTree w h t) : Calls Tryd.prog 41 #[h.v, .func (.func 40) #[] #[]] w (Says w (.bool (allT toldK t))) := by
  have hmf : ∀ (fn : Fn) (first cap : Array Value) (w : World), (Instr.makeFunc fn first cap).run Tryd.prog w = .ok (.func fn first cap) w := fun _ _ _ _ => rfl
  unfold TH.v
  have HTT := Lib.hid ht
  clear ht
  go_enter Tryd.func41, Tryd.ntmps41
  have hbw1 : Below w.heap.size w (w.alloc (.cells #[.int .i64 h.k, .slice h.ka h.kn h.kc, .slice h.va h.vn h.vc, .slice h.da h.dn h.dc, .slice h.ta h.tn h.tc] 27)) := (Below.refl _ _).alloc (Nat.le_refl _) _
  have hbx1 := Box.new w 27 h
  have e1 : (w.alloc (.cells #[.int .i64 h.k, .slice h.ka h.kn h.kc, .slice h.va h.vn h.vc, .slice h.da h.dn h.dc, .slice h.ta h.tn h.tc] 27)).heap.size = w.heap.size + 1 := by simp
  have hbw2 : Below w.heap.size w ((w.alloc (.cells #[.int .i64 h.k, .slice h.ka h.kn h.kc, .slice h.va h.vn h.vc, .slice h.da h.dn h.dc, .slice h.ta h.tn h.tc] 27)).alloc (.cells #[.func (.func 40) #[] #[]] 29)) := hbw1.alloc (by rw [e1]; omega) _
  have hbx2 := hbx1.below ((Below.refl _ _).alloc (Nat.le_refl _) (.cells #[.func (.func 40) #[] #[]] 29)) hbx1.lt
  have hpv2 := Var1.new (w.alloc (.cells #[.int .i64 h.k, .slice h.ka h.kn h.kc, .slice h.va h.vn h.vc, .slice h.da h.dn h.dc, .slice h.ta h.tn h.tc] 27)) 29 (.func (.func 40) #[] #[])
  have e2 : ((w.alloc (.cells #[.int .i64 h.k, .slice h.ka h.kn h.kc, .slice h.va h.vn h.vc, .slice h.da h.dn h.dc, .slice h.ta h.tn h.tc] 27)).alloc (.cells #[.func (.func 40) #[] #[]] 29)).heap.size = w.heap.size + 2 := by simp
  have hbw3 : Below w.heap.size w (((w.alloc (.cells #[.int .i64 h.k, .slice h.ka h.kn h.kc, .slice h.va h.vn h.vc, .slice h.da h.dn h.dc, .slice h.ta h.tn h.tc] 27)).alloc (.cells #[.func (.func 40) #[] #[]] 29)).alloc (.cells #[.nilFunc] 29)) := hbw2.alloc (by rw [e2]; omega) _
  have hbx3 := hbx2.below ((Below.refl _ _).alloc (Nat.le_refl _) (.cells #[.nilFunc] 29)) hbx2.lt
  have hpv3 := hpv2.below ((Below.refl _ _).alloc (Nat.le_refl _) (.cells #[.nilFunc] 29)) hpv2.lt
  have hnf := Var1.new ((w.alloc (.cells #[.int .i64 h.k, .slice h.ka h.kn h.kc, .slice h.va h.vn h.vc, .slice h.da h.dn h.dc, .slice h.ta h.tn h.tc] 27)).alloc (.cells #[.func (.func 40) #[] #[]] 29)) 29 .nilFunc
  rw [e2] at hnf
  rw [e1] at hpv3
  clear hbw1 hbx1 e1 hbw2 hbx2 hpv2 e2
  go_upto_region 2 with fail
  generalize (((w.alloc (.cells #[.int .i64 h.k, .slice h.ka h.kn h.kc, .slice h.va h.vn h.vc, .slice h.da h.dn h.dc, .slice h.ta h.tn h.tc] 27)).alloc (.cells #[.func (.func 40) #[] #[]] 29)).alloc (.cells #[.nilFunc] 29)) = w2 at *
  have c0 := hnf.cell
  have c1 := hnf.frozen 0
  have hn4 := hnf.set (.func (.func 67) #[] #[.pointer (some ⟨w.heap.size + 1, 0, none⟩), .pointer (some ⟨w.heap.size + 2, 0, none⟩)])
  have hbx4 : Box (w2.setCell ⟨w.heap.size + 2, 0, none⟩ (.func (.func 67) #[] #[.pointer (some ⟨w.heap.size + 1, 0, none⟩), .pointer (some ⟨w.heap.size + 2, 0, none⟩)])) 27 w.heap.size h := (Below.heap_setCell w2 ⟨w.heap.size + 2, 0, none⟩ _ w.heap.size (by simp)).trans hbx3
  have hpv4 := hpv3.far (p := ⟨w.heap.size + 2, 0, none⟩) (by simp) (.func (.func 67) #[] #[.pointer (some ⟨w.heap.size + 1, 0, none⟩), .pointer (some ⟨w.heap.size + 2, 0, none⟩)])
  have hb4 : Below w.heap.size w (w2.setCell ⟨w.heap.size + 2, 0, none⟩ (.func (.func 67) #[] #[.pointer (some ⟨w.heap.size + 1, 0, none⟩), .pointer (some ⟨w.heap.size + 2, 0, none⟩)])) := hbw3.setCell (by simp) _
  clear hnf hbx3 hpv3 hbw3
  go_upto_region 3 with fail
  generalize (w2.setCell ⟨w.heap.size + 2, 0, none⟩ (.func (.func 67) #[] #[.pointer (some ⟨w.heap.size + 1, 0, none⟩), .pointer (some ⟨w.heap.size + 2, 0, none⟩)])) = w3 at *
  obtain ⟨x0, x1, x2, x3, x4⟩ := hbx4.cells
  have c2 := hn4.cell
  have HN := Lib.hid hn4
  have HPV := Lib.hid hpv4
  have HB3 := Lib.hid hb4
  skip
  clear c0 c1 hbx4 hb4 hpv4 hn4
  go_wp2_with (first
    | (go_at_call 67
       refine (everyToldC t h _ (w.heap.size + 1) (w.heap.size + 2) (HTT.out.lower HB3.out) HPV.out HN.out).mono ?_
       rintro _ w4 ⟨rfl, hb4⟩
       have HB4 : Hid (Below w.heap.size w w4) := Lib.hid (HB3.out.trans (hb4.mono HB3.out.size))
       clear hb4))
  go_ret
  exact ⟨rfl, HB4.out⟩
end Go.Proofs.YtlbiefddcimdgaaDoor

/- The contracts of the program's Check and Full. -/
namespace Go.Proofs.YtlbiefddcimdgaaDoor
open Go.RowKit
set_option linter.unusedVariables false
set_option maxRecDepth 100000 in
set_option maxHeartbeats 4000000 in
theorem check_any (t : Tr) (h : TH) (w : World) (ht : InTree w h t) : Calls Tryd.prog 38 #[h.v] w (Says w (codeV (checkT t))) := by
  unfold TH.v
  have hbox := Box.new w 27 h
  have HX := Lib.hid hbox
  have HT := Lib.hid ht
  obtain ⟨x0, x1, x2, x3, x4⟩ := hbox.cells
  clear hbox ht
  go_enter Tryd.func38, Tryd.ntmps38
  go_upto_if 4 with (first
    | (go_at_call 65
       refine (tooDeep_any t h _ ?_).mono ?_
       · exact HT.out.lower ((Below.refl _ _).alloc (Nat.le_refl _) _)
       rintro _ w1 ⟨rfl, hb1⟩
       have HB1 : Hid (Below w.heap.size w w1) := Lib.hid (((Below.refl w.heap.size w).alloc (Nat.le_refl _) _).trans (hb1.mono (by simp)))
       obtain ⟨y0, y1, y2, y3, y4⟩ := (HX.out.below hb1 HX.out.lt).cells
       generalize hr : deepT t 64 = r
       have HR := Lib.hid hr
       clear hb1 hr x0 x1 x2 x3 x4))
  cases r
  · go_upto_if 8 with (first
      | (go_at_call 41
         refine (everyPart t h _ ?_).mono ?_
         · exact HT.out.lower HB1.out
         rintro _ w2 ⟨rfl, hb2⟩
         have HB2 : Hid (Below w.heap.size w w2) := Lib.hid (HB1.out.trans (hb2.mono HB1.out.size))
         rw [allT_part]
         generalize hq : formedT t = q
         have HQ := Lib.hid hq
         clear hb2 hq y0 y1 y2 y3 y4))
    cases q
    · go_wp2_with fail
      go_ret
      have e : checkT t = 3 := by unfold checkT; rw [HR.out, HQ.out]; rfl
      exact ⟨by rw [e]; rfl, HB2.out⟩
    · simp only [Bool.not_true]
      go_wp2_with fail
      go_ret
      have e : checkT t = 0 := by unfold checkT; rw [HR.out, HQ.out]; rfl
      exact ⟨by rw [e]; rfl, HB2.out⟩
  · go_wp2_with fail
    go_ret
    have e : checkT t = 5 := by unfold checkT; rw [HR.out]; rfl
    exact ⟨by rw [e]; rfl, HB1.out⟩
theorem check_zero {t : Tr} (h : checkT t = 0) : formedT t = true ∧ deepT t 64 = false := by
  unfold checkT at h
  split at h
  · cases h
  · split at h
    · exact ⟨by assumption, by rename_i q _; simpa using q⟩
    · cases h
theorem codeV_pos {k : Nat} (h : k ≠ 0) : codeV k = .iface 56 (.int .i64 k) := by
  unfold codeV
  rw [if_neg h]

set_option maxRecDepth 100000 in
set_option maxHeartbeats 4000000 in
theorem full_any (t : Tr) (h : TH) (w : World) (ht : InTree w h t) : Calls Tryd.prog 74 #[h.v] w (Says w (.bool (decide (checkT t = 0) && fullT t))) := by
  unfold TH.v
  have hbox := Box.new w 27 h
  have HX := Lib.hid hbox
  have HT := Lib.hid ht
  obtain ⟨x0, x1, x2, x3, x4⟩ := hbox.cells
  clear hbox ht
  go_enter Tryd.func74, Tryd.ntmps74
  by_cases hc : checkT t = 0
  · have HCZ := Lib.hid hc
    clear hc
    go_wp2_with (first
      | (go_at_call 38
         refine (check_any t h _ ?_).mono ?_
         · exact HT.out.lower ((Below.refl _ _).alloc (Nat.le_refl _) _)
         rintro _ w1 ⟨rfl, hb1⟩
         have HB1 : Hid (Below w.heap.size w w1) := Lib.hid (((Below.refl w.heap.size w).alloc (Nat.le_refl _) _).trans (hb1.mono (by simp)))
         obtain ⟨y0, y1, y2, y3, y4⟩ := (HX.out.below hb1 HX.out.lt).cells
         have hcv : codeV (checkT t) = .nilIface := by rw [HCZ.out]; rfl
         rw [hcv]
         clear hcv
         clear hb1 x0 x1 x2 x3 x4)
      | (go_at_call 41
         refine (everyTold t h _ ?_).mono ?_
         · exact HT.out.lower HB1.out
         rintro _ w2 ⟨rfl, hb2⟩
         have HB2 : Hid (Below w.heap.size w w2) := Lib.hid (HB1.out.trans (hb2.mono HB1.out.size))
         rw [allT_told t (check_zero HCZ.out).1]
         clear hb2 y0 y1 y2 y3 y4))
    go_ret
    refine ⟨?_, HB2.out⟩
    rw [HCZ.out]
    rfl
  · have HCZ := Lib.hid hc
    clear hc
    go_wp2_with (first
      | (go_at_call 38
         refine (check_any t h _ ?_).mono ?_
         · exact HT.out.lower ((Below.refl _ _).alloc (Nat.le_refl _) _)
         rintro _ w1 ⟨rfl, hb1⟩
         have HB1 : Hid (Below w.heap.size w w1) := Lib.hid (((Below.refl w.heap.size w).alloc (Nat.le_refl _) _).trans (hb1.mono (by simp)))
         rw [codeV_pos HCZ.out]
         clear hb1 x0 x1 x2 x3 x4))
    go_ret
    refine ⟨?_, HB1.out⟩
    rw [decide_eq_false HCZ.out]
    rfl
end Go.Proofs.YtlbiefddcimdgaaDoor

/- The contract of the program's list of nodes. -/
namespace Go.Proofs.YtlbiefddcimdgaaDoor
open Go.RowKit
set_option linter.unusedVariables false

/-- From w to w' block gn and the row v alone were written; the row is where it was, or in a new block. -/
structure Keeps (w w' : World) (gn : Nat) (v v' : Value) : Prop where
  os : w'.os = w.os
  tape : w'.tape = w.tape
  output : w'.output = w.output
  size : w.heap.size ≤ w'.heap.size
  block : ∀ j, j < w.heap.size → j ≠ gn → some j ≠ v.ownBlock → w'.heap[j]? = w.heap[j]?
  ob : v'.ownBlock = v.ownBlock ∨ ∃ g, v'.ownBlock = some g ∧ w.heap.size ≤ g
theorem Keeps.trans {a b c : World} {gn : Nat} {u v x : Value} (h : Keeps a b gn u v) (h' : Keeps b c gn v x) : Keeps a c gn u x :=
  ⟨h'.os.trans h.os, h'.tape.trans h.tape, h'.output.trans h.output, Nat.le_trans h.size h'.size, fun j hj hn ho => by
    rw [h'.block j (Nat.lt_of_lt_of_le hj h.size) hn ?_]
    · exact h.block j hj hn ho
    · rcases h.ob with e | ⟨g, e, hg⟩
      · rw [e]; exact ho
      · rw [e]
        intro q
        injection q with q
        omega, by
    rcases h'.ob with e | ⟨g, e, hg⟩
    · rw [e]; exact h.ob
    · exact .inr ⟨g, e, Nat.le_trans h.size hg⟩⟩
theorem Keeps.of_below {w w' : World} (gn : Nat) (v : Value) (hb : Below w.heap.size w w') : Keeps w w' gn v v :=
  ⟨hb.os, hb.tape, hb.output, hb.size, fun j hj _ _ => hb.block j hj, .inl rfl⟩
theorem Keeps.of_grown {w w' : World} (gn : Nat) {v v' : Value} (hg : w.grownBy w' v.ownBlock) (ho : v'.ownBlock = v.ownBlock ∨ v'.ownBlock = some w.heap.size) : Keeps w w' gn v v' :=
  ⟨hg.os, hg.tape, hg.output, hg.size, fun j hj _ h => hg.block j hj h, by
    rcases ho with h | h
    · exact .inl h
    · exact .inr ⟨_, h, Nat.le_refl _⟩⟩
theorem Keeps.of_set (w : World) (gn : Nat) (v u : Value) : Keeps w (w.setCell ⟨gn, 0, none⟩ u) gn v v :=
  ⟨rfl, rfl, rfl, by simp [World.setCell], fun j _ hn _ => Below.heap_setCell w ⟨gn, 0, none⟩ u j hn, .inl rfl⟩
theorem Keeps.below {wb w w' : World} {gn B : Nat} {v v' : Value} (h : Keeps w w' gn v v') (hb : Below B wb w) (hB : B ≤ w.heap.size) (hgn : B ≤ gn) (hv : ∀ k, v.ownBlock = some k → B ≤ k) : Below B wb w' :=
  ⟨h.os.trans hb.os, h.tape.trans hb.tape, h.output.trans hb.output, Nat.le_trans hb.size h.size, fun j hj => by
    rw [h.block j (by omega) (by omega) ?_]
    · exact hb.block j hj
    · intro q
      have := hv j q.symm
      omega⟩
/-- The world inside the closure of List: u is what the variable holds, v the row. -/
structure LW (wb w W : World) (gc gn : Nat) (h : TH) (v0 u v : Value) (hs : List TH) : Prop where
  box : Box W 27 w.heap.size h
  clo : Var1 W 96 gc (.func (.func 54) #[] #[.pointer (some ⟨gc, 0, none⟩), .pointer (some ⟨gn, 0, none⟩)])
  var : Var1 W 25 gn u
  own : OwnT W wb.heap.size 27 v hs
  b : Below wb.heap.size wb W
  nb : some w.heap.size ≠ v.ownBlock
  ge : wb.heap.size ≤ gn
  k : Keeps w W gn v0 v
section
variable {wb w W W' : World} {gc gn : Nat} {h : TH} {v0 u v u' v' : Value} {hs hs' : List TH}
theorem LW.step (d : LW wb w W gc gn h v0 u v hs) (hvar : Var1 W' 25 gn u') (hown : OwnT W' wb.heap.size 27 v' hs') (hk : Keeps W W' gn v v') : LW wb w W' gc gn h v0 u' v' hs' :=
  ⟨(hk.block _ d.box.lt (d.box.neV d.var (by decide)) d.nb).trans d.box, (hk.block _ d.clo.lt (d.clo.ne d.var (by decide)) (d.own.neV d.clo (by decide))).trans d.clo, hvar, hown,
    hk.below d.b d.b.size d.ge (fun k e => (d.own.lt k e).1), by
      rcases hk.ob with e | ⟨g, e, hg⟩
      · rw [e]; exact d.nb
      · rw [e]
        intro q
        injection q with q
        have := d.box.lt
        omega, d.ge, d.k.trans hk⟩
theorem LW.below (d : LW wb w W gc gn h v0 u v hs) (hb : Below W.heap.size W W') : LW wb w W' gc gn h v0 u v hs :=
  d.step (d.var.below hb d.var.lt) (d.own.keep hb) (Keeps.of_below gn v hb)
theorem LW.drew (d : LW wb w W gc gn h v0 u v hs) : LW wb w W.drew gc gn h v0 u v hs := d.below (Below.refl _ _).drew
/-- The row was written, or has grown. -/
theorem LW.grown (d : LW wb w W gc gn h v0 u v hs) (hown : OwnT W' wb.heap.size 27 v' hs') (hg : W.grownBy W' v.ownBlock) (ho : v'.ownBlock = v.ownBlock ∨ v'.ownBlock = some W.heap.size) : LW wb w W' gc gn h v0 u v' hs' :=
  d.step (d.var.grown hg (d.own.neV d.var (by decide))) hown (Keeps.of_grown gn hg ho)
/-- The variable was written. -/
theorem LW.put (d : LW wb w W gc gn h v0 u v hs) (x : Value) : LW wb w (W.setCell ⟨gn, 0, none⟩ x) gc gn h v0 x v hs :=
  d.step (d.var.set x) (d.own.far (p := ⟨gn, 0, none⟩) (d.own.neV d.var (by decide)) x) (Keeps.of_set W gn v x)
end
theorem LW.new {wb w : World} {gc gn : Nat} {v : Value} {hs : List TH} (h : TH) (hb : Below wb.heap.size wb w) (hge : wb.heap.size ≤ gn) (hc : Var1 w 96 gc (.func (.func 54) #[] #[.pointer (some ⟨gc, 0, none⟩), .pointer (some ⟨gn, 0, none⟩)])) (hv : Var1 w 25 gn v) (ho : OwnT w wb.heap.size 27 v hs) : LW wb w (w.alloc (.cells #[.int .i64 h.k, .slice h.ka h.kn h.kc, .slice h.va h.vn h.vc, .slice h.da h.dn h.dc, .slice h.ta h.tn h.tc] 27)) gc gn h v v v hs :=
  have h1 : Below w.heap.size w (w.alloc (.cells #[.int .i64 h.k, .slice h.ka h.kn h.kc, .slice h.va h.vn h.vc, .slice h.da h.dn h.dc, .slice h.ta h.tn h.tc] 27)) := (Below.refl _ _).alloc (Nat.le_refl _) _
  ⟨Box.new w _ h, hc.below h1 hc.lt, hv.below h1 hv.lt, ho.keep h1, hb.trans (h1.mono hb.size), fun q => by have := (ho.lt _ q.symm).2; omega, hge, Keeps.of_below gn v h1⟩

set_option maxRecDepth 100000 in
set_option maxHeartbeats 4000000 in
theorem listC_any (wb : World) : ∀ (t : Tr) (h : TH) (w : World) (gc gn : Nat) (v : Value) (hs : List TH), InTree wb h t → formedT t = true → hs.length + countT t ≤ 1000 → Below wb.heap.size wb w → wb.heap.size ≤ gn →
    Var1 w 96 gc (.func (.func 54) #[] #[.pointer (some ⟨gc, 0, none⟩), .pointer (some ⟨gn, 0, none⟩)]) → Var1 w 25 gn v → OwnT w wb.heap.size 27 v hs →
    Calls Tryd.prog 54 #[h.v, .pointer (some ⟨gc, 0, none⟩), .pointer (some ⟨gn, 0, none⟩)] w (fun e w' => ∃ v' hs', e = .returned (.tuple #[]) ∧ Var1 w' 25 gn v' ∧ OwnT w' wb.heap.size 27 v' (hs ++ hs') ∧ Heads wb hs' (listT t) ∧ Keeps w w' gn v v') := by
  intro t
  induction t using Tr.ind with
  | h t ih =>
  intro h w gc gn v hs ht hf hcn hbw hge hc hv ho
  obtain ⟨hpb, hfk⟩ := formed_kids hf
  unfold TH.v
  obtain ⟨H, hp⟩ := ht.parts
  have htl := hp.len
  have htm := Nat.le_trans hp.sl.le hp.sl.max
  have htc := hp.sl.le
  simp only [maxLen] at htm
  have HP := Lib.hid hp
  have HTT := Lib.hid ht
  have IH := Lib.hid ih
  have hd0 := LW.new h hbw hge hc hv ho
  have HD0 := Lib.hid hd0
  obtain ⟨x0, x1, x2, x3, x4⟩ := hd0.box.cells
  clear hp ht ih hbw hge hc hv ho hd0
  obtain ⟨ti, hti, htz⟩ := Option.map_eq_some_iff.1 infoTree2
  simp only [Prod.mk.injEq] at htz
  obtain ⟨hz0, hz1, hz2⟩ := htz
  go_enter Tryd.func54, Tryd.ntmps54
  go_upto_if 6 with (first
    | (go_at_call 55
       refine (isNode_any t h _ (HTT.out.lower HD0.out.b)).mono ?_
       rintro _ w1 ⟨rfl, hb1⟩
       have HD1 := Lib.hid (HD0.out.below hb1)
       clear hb1))
  clear x0 x1 x2 x3 x4 HD0
  rcases part_kids hpb with ⟨h0, hk⟩ | ⟨h2, hk⟩
  · have e1 : nodeK t = false := by unfold nodeK; rcases hk with hk | hk <;> rw [hk] <;> rfl
    rw [e1]
    clear e1 hk
    go_wp2_with fail
    first | go_end0 | refine bodyPost_ret (results_none rfl _ _ _) rfl ?_
    exact ⟨v, [], rfl, HD1.out.var, by rw [List.append_nil]; exact HD1.out.own, by rw [listT_0 h0]; exact Heads.nil wb, HD1.out.k⟩
  have e1 : nodeK t = true := by unfold nodeK; rcases hk with hk | hk <;> rw [hk] <;> rfl
  rw [e1]
  clear e1 hk
  simp only [Bool.not_true]
  have l0 : 0 < t.kids.length := by omega
  have l1 : 1 < t.kids.length := by omega
  have hct := count_two h2
  have ll0 := list_len _ (hfk 0 l0)
  have HL := Lib.hid (listT_2 h2)
  have HF := Lib.hid hfk
  have hbd0 : hs.length + countT t.kids[0] ≤ 1000 := by omega
  have hbd3 : hs.length + countT t.kids[0] + 1 + countT t.kids[1] ≤ 1000 := by omega
  clear hfk hf hct hcn
  go_upto_region 2 with fail
  obtain ⟨g, off, hta, hg, -⟩ := (HP.out.below HD1.out.b).place (by omega)
  have HTA := Lib.hid hta
  rw [hta]
  clear hta hg
  have ht1 : (1 : Int) < (h.tn : Int) := by omega
  have ht0 : 0 < h.tn := by omega
  refine wp_region_held_drew (S := (fun W => W.cell? ⟨gc, 0, none⟩ = some (.func (.func 54) #[] #[.pointer (some ⟨gc, 0, none⟩), .pointer (some ⟨gn, 0, none⟩)]) ∧ W.cell? ⟨w.heap.size, 4, none⟩ = some (.slice (some ⟨g, off, none⟩) h.tn h.tc) ∧ W.cell? ⟨g, off, none⟩ = some (.int .i64 (H 0).k) ∧ W.cell? ⟨g, off + 1, none⟩ = some (.slice (H 0).ka (H 0).kn (H 0).kc) ∧ W.cell? ⟨g, off + 2, none⟩ = some (.slice (H 0).va (H 0).vn (H 0).vc) ∧ W.cell? ⟨g, off + 3, none⟩ = some (.slice (H 0).da (H 0).dn (H 0).dc) ∧ W.cell? ⟨g, off + 4, none⟩ = some (.slice (H 0).ta (H 0).tn (H 0).tc))) (by kernel_rfl) ⟨HD1.out.drew.clo.cell, (HD1.out.drew.box.cells.2.2.2.2).trans (by rw [HTA.out]), (HP.out.below HD1.out.drew.b).kid0 HTA.out (by omega)⟩ (fun hHeld => ?_)
  refine take_w (i := 0) (oi := ?oZ1) (v := ?vZ1) ?hiZ1 (by kernel_rfl) (by kernel_rfl) (by kernel_rfl) ?hQZ1 ?hwZ1 ?hyZ1 (by assumption) ?restZ1
  case hiZ1 => (simp only [List.getElem?_toArray, List.getElem?_cons_zero] <;> rfl)
  case hQZ1 => exact (fun _ _ _ h => h)
  case hwZ1 => rfl
  case hyZ1 => (intro w hSw; (try dsimp only at hSw); go_simp; try with_reducible rfl)
  (try simp only [Act.put, List.setIfInBounds_toArray, List.set_cons_zero, List.set_cons_succ])
  refine take_w (i := 1) (oi := ?oZ2) (v := ?vZ2) ?hiZ2 (by kernel_rfl) (by kernel_rfl) (by kernel_rfl) ?hQZ2 ?hwZ2 ?hyZ2 (by assumption) ?restZ2
  case hiZ2 => (simp only [List.getElem?_toArray, List.getElem?_cons_succ, List.getElem?_cons_zero] <;> rfl)
  case hQZ2 => exact (fun _ _ _ h => h)
  case hwZ2 => rfl
  case hyZ2 => (intro w hSw; (try dsimp only at hSw); go_simp; try with_reducible rfl)
  (try simp only [Act.put, List.setIfInBounds_toArray, List.set_cons_zero, List.set_cons_succ])
  refine take_w (i := 2) (oi := ?oZ3) (v := ?vZ3) ?hiZ3 (by kernel_rfl) (by kernel_rfl) (by kernel_rfl) ?hQZ3 ?hwZ3 ?hyZ3 (by assumption) ?restZ3
  case hiZ3 => (simp only [List.getElem?_toArray, List.getElem?_cons_succ, List.getElem?_cons_zero] <;> rfl)
  case hQZ3 => exact (fun _ _ _ h => h)
  case hwZ3 => rfl
  case hyZ3 => (intro w hSw; (try dsimp only at hSw); go_simp; try with_reducible rfl)
  (try simp only [Act.put, List.setIfInBounds_toArray, List.set_cons_zero, List.set_cons_succ])
  refine take_w (i := 3) (oi := ?oZ4) (v := ?vZ4) ?hiZ4 (by kernel_rfl) (by kernel_rfl) (by kernel_rfl) ?hQZ4 ?hwZ4 ?hyZ4 (by assumption) ?restZ4
  case hiZ4 => (simp only [List.getElem?_toArray, List.getElem?_cons_succ, List.getElem?_cons_zero] <;> rfl)
  case hQZ4 => exact (fun _ _ _ h => h)
  case hwZ4 => rfl
  case hyZ4 => (intro w hSw; (try dsimp only at hSw); go_simp; try with_reducible rfl)
  (try simp only [Act.put, List.setIfInBounds_toArray, List.set_cons_zero, List.set_cons_succ])
  refine take_w (i := 4) (oi := ?oZ5) (v := ?vZ5) ?hiZ5 (by kernel_rfl) (by kernel_rfl) (by kernel_rfl) ?hQZ5 ?hwZ5 ?hyZ5 (by assumption) ?restZ5
  case hiZ5 => (simp only [List.getElem?_toArray, List.getElem?_cons_succ, List.getElem?_cons_zero] <;> rfl)
  case hQZ5 => exact (fun _ _ _ h => h)
  case hwZ5 => rfl
  case hyZ5 => (intro w hSw; (try dsimp only at hSw); go_simp; try with_reducible rfl)
  (try simp only [Act.put, List.setIfInBounds_toArray, List.set_cons_zero, List.set_cons_succ])
  refine wpAnyH_ready (rs := [5]) (by kernel_rfl) (by simp) ?_
  refine AllReadyH.cons (o := ?oZ6) ?hiZ6 (fun K hK => ?stZ6) AllReadyH.nil
  case hiZ6 => (simp only [List.getElem?_toArray, List.getElem?_cons_succ, List.getElem?_cons_zero] <;> rfl)
  go_simp
  go_at_call 54
  refine (IH.out _ (List.getElem_mem l0) (H 0) _ gc gn _ _ (HP.out.kids 0 l0) (HF.out 0 l0) hbd0 HD1.out.drew.b HD1.out.drew.ge HD1.out.drew.clo HD1.out.drew.var HD1.out.drew.own).mono ?_
  rintro _ w2 ⟨v2, hs2, rfl, hv2, ho2, hh2, hk2⟩
  have HD2 := Lib.hid (HD1.out.drew.step hv2 ho2 hk2)
  have HH2 := Lib.hid hh2
  clear hv2 ho2 hh2 hk2
  go_simp
  refine hK.out _ _ ?_ (fun hHeld => ?_)
  · (first | exact ⟨HD2.out.clo.cell, (HD2.out.box.cells.2.2.2.2).trans (by rw [HTA.out]), (HP.out.below HD2.out.b).kid0 HTA.out (by omega)⟩ | exact ⟨HD1.out.drew.clo.cell, (HD1.out.drew.box.cells.2.2.2.2).trans (by rw [HTA.out]), (HP.out.below HD1.out.drew.b).kid0 HTA.out (by omega)⟩)
  clear hK K
  (try simp only [Act.put, List.setIfInBounds_toArray, List.set_cons_zero, List.set_cons_succ])
  refine wpAnyH_done (by kernel_rfl) ?_ _
  
  clear hHeld
  have hhl := HH2.out.1
  obtain ⟨a2, c2, hv2⟩ := HD2.out.own.sl
  have hbd4 : (hs ++ hs2).length + 1 + countT t.kids[1] ≤ 1000 := by rw [List.length_append, hhl]; omega
  generalize hn2 : (hs ++ hs2).length = n2 at hv2 hbd4
  have HN2 := Lib.hid hn2
  subst hv2
  clear hhl hn2
  go_upto_region 3 with fail
  go_cut [] (fun wx => ∃ v3, LW wb w wx gc gn h v v3 v3 (hs ++ hs2 ++ [h]))
  case first =>
    have hba : Below w2.drew.heap.size w2.drew (w2.drew.alloc (.cells #[.int .i64 0, .slice none 0 0, .slice none 0 0, .slice none 0 0, .slice none 0 0] 27)) := (Below.refl _ _).alloc (Nat.le_refl _) _
    have HDA := Lib.hid (HD2.out.drew.below hba)
    have HZB : Hid (Box (w2.drew.alloc (.cells #[.int .i64 0, .slice none 0 0, .slice none 0 0, .slice none 0 0, .slice none 0 0] 27)) 27 w2.heap.size hZ) := Lib.hid (Box.new w2.drew 27 hZ)
    have cv2 := HD2.out.var.cell
    have cva : (w2.alloc (.cells #[.int .i64 0, .slice none 0 0, .slice none 0 0, .slice none 0 0, .slice none 0 0] 27)).cell? ⟨gn, 0, none⟩ = some (.slice a2 n2 c2) := HDA.out.var.cell
    have hlt2 : (n2 : Int) < (n2 : Int) + 1 := by omega
    clear hba
    refine wp_region_held_drew (S := (fun W => W.cell? ⟨w.heap.size, 0, none⟩ = some (.int .i64 h.k) ∧ W.cell? ⟨w.heap.size, 1, none⟩ = some (.slice h.ka h.kn h.kc) ∧ W.cell? ⟨w.heap.size, 2, none⟩ = some (.slice h.va h.vn h.vc) ∧ W.cell? ⟨w.heap.size, 3, none⟩ = some (.slice h.da h.dn h.dc) ∧ W.cell? ⟨w.heap.size, 4, none⟩ = some (.slice (some ⟨g, off, none⟩) h.tn h.tc))) (by kernel_rfl) ⟨HD2.out.drew.box.cells.1, HD2.out.drew.box.cells.2.1, HD2.out.drew.box.cells.2.2.1, HD2.out.drew.box.cells.2.2.2.1, (HD2.out.drew.box.cells.2.2.2.2).trans (by rw [HTA.out])⟩ (fun hHeld => ?_)
    refine take_w (i := 1) (oi := ?oZ13) (v := ?vZ13) ?hiZ13 (by kernel_rfl) (by kernel_rfl) (by kernel_rfl) ?hQZ13 ?hwZ13 ?hyZ13 (by assumption) ?restZ13
    case hiZ13 => (simp only [List.getElem?_toArray, List.getElem?_cons_succ, List.getElem?_cons_zero] <;> rfl)
    case hQZ13 => exact (fun _ _ _ h => h)
    case hwZ13 => rfl
    case hyZ13 => (intro w hSw; (try dsimp only at hSw); go_simp; try with_reducible rfl)
    (try simp only [Act.put, List.setIfInBounds_toArray, List.set_cons_zero, List.set_cons_succ])
    refine wpAnyH_ready (rs := [0, 3]) (by kernel_rfl) (by simp) ?_
    refine AllReadyH.cons (o := ?oZ14) ?hiZ14 (fun K hK => ?stZ14) (AllReadyH.cons (o := ?oZ15) ?hiZ15 (fun K hK => ?stZ15) AllReadyH.nil)
    case hiZ14 => (simp only [List.getElem?_toArray, List.getElem?_cons_zero] <;> rfl)
    case hiZ15 => (simp only [List.getElem?_toArray, List.getElem?_cons_succ, List.getElem?_cons_zero] <;> rfl)
    case stZ14 =>
      go_simp
      refine hK.out _ _ ?_ (fun hHeld => ?_)
      · (first | exact ⟨(HD4.out.put (.slice (some ⟨g3, 0, none⟩) (n2 + 1) c3)).box.cells.1, (HD4.out.put (.slice (some ⟨g3, 0, none⟩) (n2 + 1) c3)).box.cells.2.1, (HD4.out.put (.slice (some ⟨g3, 0, none⟩) (n2 + 1) c3)).box.cells.2.2.1, (HD4.out.put (.slice (some ⟨g3, 0, none⟩) (n2 + 1) c3)).box.cells.2.2.2.1, ((HD4.out.put (.slice (some ⟨g3, 0, none⟩) (n2 + 1) c3)).box.cells.2.2.2.2).trans (by rw [HTA.out])⟩ | exact ⟨HD5.out.box.cells.1, HD5.out.box.cells.2.1, HD5.out.box.cells.2.2.1, HD5.out.box.cells.2.2.2.1, (HD5.out.box.cells.2.2.2.2).trans (by rw [HTA.out])⟩ | exact ⟨HD4.out.box.cells.1, HD4.out.box.cells.2.1, HD4.out.box.cells.2.2.1, HD4.out.box.cells.2.2.2.1, (HD4.out.box.cells.2.2.2.2).trans (by rw [HTA.out])⟩ | exact ⟨(HD3.out.put (.slice (some ⟨g3, 0, none⟩) (n2 + 1) c3)).box.cells.1, (HD3.out.put (.slice (some ⟨g3, 0, none⟩) (n2 + 1) c3)).box.cells.2.1, (HD3.out.put (.slice (some ⟨g3, 0, none⟩) (n2 + 1) c3)).box.cells.2.2.1, (HD3.out.put (.slice (some ⟨g3, 0, none⟩) (n2 + 1) c3)).box.cells.2.2.2.1, ((HD3.out.put (.slice (some ⟨g3, 0, none⟩) (n2 + 1) c3)).box.cells.2.2.2.2).trans (by rw [HTA.out])⟩ | exact ⟨HD3.out.box.cells.1, HD3.out.box.cells.2.1, HD3.out.box.cells.2.2.1, HD3.out.box.cells.2.2.2.1, (HD3.out.box.cells.2.2.2.2).trans (by rw [HTA.out])⟩ | exact ⟨HDA.out.box.cells.1, HDA.out.box.cells.2.1, HDA.out.box.cells.2.2.1, HDA.out.box.cells.2.2.2.1, (HDA.out.box.cells.2.2.2.2).trans (by rw [HTA.out])⟩ | exact ⟨HD2.out.drew.box.cells.1, HD2.out.drew.box.cells.2.1, HD2.out.drew.box.cells.2.2.1, HD2.out.drew.box.cells.2.2.2.1, (HD2.out.drew.box.cells.2.2.2.2).trans (by rw [HTA.out])⟩)
      clear hK K
      (try simp only [Act.put, List.setIfInBounds_toArray, List.set_cons_zero, List.set_cons_succ])
      refine take_w (i := 2) (oi := ?oZ16) (v := ?vZ16) ?hiZ16 (by kernel_rfl) (by kernel_rfl) (by kernel_rfl) ?hQZ16 ?hwZ16 ?hyZ16 (by assumption) ?restZ16
      case hiZ16 => (simp only [List.getElem?_toArray, List.getElem?_cons_succ, List.getElem?_cons_zero] <;> rfl)
      case hQZ16 => exact (fun _ _ _ h => h)
      case hwZ16 => rfl
      case hyZ16 => (intro w hSw; (try dsimp only at hSw); go_simp; try with_reducible rfl)
      (try simp only [Act.put, List.setIfInBounds_toArray, List.set_cons_zero, List.set_cons_succ])
      refine wpAnyH_ready (rs := [3]) (by kernel_rfl) (by simp) ?_
      refine AllReadyH.cons (o := ?oZ17) ?hiZ17 (fun K hK => ?stZ17) AllReadyH.nil
      case hiZ17 => (simp only [List.getElem?_toArray, List.getElem?_cons_succ, List.getElem?_cons_zero] <;> rfl)
      go_simp
      refine hK.out _ _ ?_ (fun hHeld => ?_)
      · (first | exact ⟨(HD4.out.put (.slice (some ⟨g3, 0, none⟩) (n2 + 1) c3)).box.cells.1, (HD4.out.put (.slice (some ⟨g3, 0, none⟩) (n2 + 1) c3)).box.cells.2.1, (HD4.out.put (.slice (some ⟨g3, 0, none⟩) (n2 + 1) c3)).box.cells.2.2.1, (HD4.out.put (.slice (some ⟨g3, 0, none⟩) (n2 + 1) c3)).box.cells.2.2.2.1, ((HD4.out.put (.slice (some ⟨g3, 0, none⟩) (n2 + 1) c3)).box.cells.2.2.2.2).trans (by rw [HTA.out])⟩ | exact ⟨HD5.out.box.cells.1, HD5.out.box.cells.2.1, HD5.out.box.cells.2.2.1, HD5.out.box.cells.2.2.2.1, (HD5.out.box.cells.2.2.2.2).trans (by rw [HTA.out])⟩ | exact ⟨HD4.out.box.cells.1, HD4.out.box.cells.2.1, HD4.out.box.cells.2.2.1, HD4.out.box.cells.2.2.2.1, (HD4.out.box.cells.2.2.2.2).trans (by rw [HTA.out])⟩ | exact ⟨(HD3.out.put (.slice (some ⟨g3, 0, none⟩) (n2 + 1) c3)).box.cells.1, (HD3.out.put (.slice (some ⟨g3, 0, none⟩) (n2 + 1) c3)).box.cells.2.1, (HD3.out.put (.slice (some ⟨g3, 0, none⟩) (n2 + 1) c3)).box.cells.2.2.1, (HD3.out.put (.slice (some ⟨g3, 0, none⟩) (n2 + 1) c3)).box.cells.2.2.2.1, ((HD3.out.put (.slice (some ⟨g3, 0, none⟩) (n2 + 1) c3)).box.cells.2.2.2.2).trans (by rw [HTA.out])⟩ | exact ⟨HD3.out.box.cells.1, HD3.out.box.cells.2.1, HD3.out.box.cells.2.2.1, HD3.out.box.cells.2.2.2.1, (HD3.out.box.cells.2.2.2.2).trans (by rw [HTA.out])⟩ | exact ⟨HDA.out.box.cells.1, HDA.out.box.cells.2.1, HDA.out.box.cells.2.2.1, HDA.out.box.cells.2.2.2.1, (HDA.out.box.cells.2.2.2.2).trans (by rw [HTA.out])⟩ | exact ⟨HD2.out.drew.box.cells.1, HD2.out.drew.box.cells.2.1, HD2.out.drew.box.cells.2.2.1, HD2.out.drew.box.cells.2.2.2.1, (HD2.out.drew.box.cells.2.2.2.2).trans (by rw [HTA.out])⟩)
      clear hK K
      (try simp only [Act.put, List.setIfInBounds_toArray, List.set_cons_zero, List.set_cons_succ])
      refine wpAnyH_ready (rs := [4]) (by kernel_rfl) (by simp) ?_
      refine AllReadyH.cons (o := ?oZ18) ?hiZ18 (fun K hK => ?stZ18) AllReadyH.nil
      case hiZ18 => (simp only [List.getElem?_toArray, List.getElem?_cons_succ, List.getElem?_cons_zero] <;> rfl)
      refine step_append_trees _ rfl (.tmp 13) (.tmp 16) 25 rfl wb.heap.size 27 ti _ 104 Tryd.underlying25 hti hz0 hz1 hz2 rfl (.slice a2 n2 c2) (hs ++ hs2) rfl HDA.out.own w2.heap.size 1 [hZ] rfl HZB.out.row (by rw [HN2.out]; simp only [List.length_cons, List.length_nil]; omega) (by omega) HDA.out.b.size ?_
      intro v3 w3 ho3 hg3 hob3
      have hl3 : (hs ++ hs2 ++ [hZ]).length = n2 + 1 := by rw [List.length_append, HN2.out]; rfl
      rcases ho3.form with ⟨_, q1⟩ | ⟨g3, c3, q1, -, -, -, -, -⟩
      · exfalso
        rw [q1] at hl3
        simp at hl3
      rw [hl3] at q1
      subst q1
      clear hl3
      have hd3 := HDA.out.grown ho3 hg3 hob3
      have HD3 := Lib.hid hd3
      have cn3 := hd3.var.cell
      have cf3 := hd3.var.frozen 0
      clear ho3 hg3 hob3 hd3
      refine hK.out _ _ ?_ (fun hHeld => ?_)
      · (first | exact ⟨(HD4.out.put (.slice (some ⟨g3, 0, none⟩) (n2 + 1) c3)).box.cells.1, (HD4.out.put (.slice (some ⟨g3, 0, none⟩) (n2 + 1) c3)).box.cells.2.1, (HD4.out.put (.slice (some ⟨g3, 0, none⟩) (n2 + 1) c3)).box.cells.2.2.1, (HD4.out.put (.slice (some ⟨g3, 0, none⟩) (n2 + 1) c3)).box.cells.2.2.2.1, ((HD4.out.put (.slice (some ⟨g3, 0, none⟩) (n2 + 1) c3)).box.cells.2.2.2.2).trans (by rw [HTA.out])⟩ | exact ⟨HD5.out.box.cells.1, HD5.out.box.cells.2.1, HD5.out.box.cells.2.2.1, HD5.out.box.cells.2.2.2.1, (HD5.out.box.cells.2.2.2.2).trans (by rw [HTA.out])⟩ | exact ⟨HD4.out.box.cells.1, HD4.out.box.cells.2.1, HD4.out.box.cells.2.2.1, HD4.out.box.cells.2.2.2.1, (HD4.out.box.cells.2.2.2.2).trans (by rw [HTA.out])⟩ | exact ⟨(HD3.out.put (.slice (some ⟨g3, 0, none⟩) (n2 + 1) c3)).box.cells.1, (HD3.out.put (.slice (some ⟨g3, 0, none⟩) (n2 + 1) c3)).box.cells.2.1, (HD3.out.put (.slice (some ⟨g3, 0, none⟩) (n2 + 1) c3)).box.cells.2.2.1, (HD3.out.put (.slice (some ⟨g3, 0, none⟩) (n2 + 1) c3)).box.cells.2.2.2.1, ((HD3.out.put (.slice (some ⟨g3, 0, none⟩) (n2 + 1) c3)).box.cells.2.2.2.2).trans (by rw [HTA.out])⟩ | exact ⟨HD3.out.box.cells.1, HD3.out.box.cells.2.1, HD3.out.box.cells.2.2.1, HD3.out.box.cells.2.2.2.1, (HD3.out.box.cells.2.2.2.2).trans (by rw [HTA.out])⟩ | exact ⟨HDA.out.box.cells.1, HDA.out.box.cells.2.1, HDA.out.box.cells.2.2.1, HDA.out.box.cells.2.2.2.1, (HDA.out.box.cells.2.2.2.2).trans (by rw [HTA.out])⟩ | exact ⟨HD2.out.drew.box.cells.1, HD2.out.drew.box.cells.2.1, HD2.out.drew.box.cells.2.2.1, HD2.out.drew.box.cells.2.2.2.1, (HD2.out.drew.box.cells.2.2.2.2).trans (by rw [HTA.out])⟩)
      clear hK K
      (try simp only [Act.put, List.setIfInBounds_toArray, List.set_cons_zero, List.set_cons_succ])
      refine take_w (i := 5) (oi := ?oZ19) (v := ?vZ19) ?hiZ19 (by kernel_rfl) (by kernel_rfl) (by kernel_rfl) ?hQZ19 ?hwZ19 ?hyZ19 (by assumption) ?restZ19
      case hiZ19 => (simp only [List.getElem?_toArray, List.getElem?_cons_succ, List.getElem?_cons_zero] <;> rfl)
      case hQZ19 => exact (fun _ _ _ h => h)
      case hwZ19 => rfl
      case hyZ19 => (intro w hSw; (try dsimp only at hSw); go_simp; try with_reducible rfl)
      (try simp only [Act.put, List.setIfInBounds_toArray, List.set_cons_zero, List.set_cons_succ])
      refine wpAnyH_ready (rs := [6, 7]) (by kernel_rfl) (by simp) ?_
      refine AllReadyH.cons (o := ?oZ20) ?hiZ20 (fun K hK => ?stZ20) (AllReadyH.cons (o := ?oZ21) ?hiZ21 (fun K hK => ?stZ21) AllReadyH.nil)
      case hiZ20 => (simp only [List.getElem?_toArray, List.getElem?_cons_succ, List.getElem?_cons_zero] <;> rfl)
      case hiZ21 => (simp only [List.getElem?_toArray, List.getElem?_cons_succ, List.getElem?_cons_zero] <;> rfl)
      case stZ20 =>
        refine step_store_last _ rfl 27 (.tmp 18) (.tmp 14) rfl wb.heap.size 27 g3 n2 c3 (hs ++ hs2) hZ h HN2.out HD3.out.own rfl (by unfold TH.v; rw [HTA.out]; rfl) infoTree5 ?_
        intro w4 ho4 hg4
        have hd4 := HD3.out.grown ho4 hg4 (.inl rfl)
        have HD4 := Lib.hid hd4
        have cn4 := hd4.var.cell
        have cf4 := hd4.var.frozen 0
        clear ho4 hg4 hd4
        refine hK.out _ _ ?_ (fun hHeld => ?_)
        · (first | exact ⟨(HD4.out.put (.slice (some ⟨g3, 0, none⟩) (n2 + 1) c3)).box.cells.1, (HD4.out.put (.slice (some ⟨g3, 0, none⟩) (n2 + 1) c3)).box.cells.2.1, (HD4.out.put (.slice (some ⟨g3, 0, none⟩) (n2 + 1) c3)).box.cells.2.2.1, (HD4.out.put (.slice (some ⟨g3, 0, none⟩) (n2 + 1) c3)).box.cells.2.2.2.1, ((HD4.out.put (.slice (some ⟨g3, 0, none⟩) (n2 + 1) c3)).box.cells.2.2.2.2).trans (by rw [HTA.out])⟩ | exact ⟨HD5.out.box.cells.1, HD5.out.box.cells.2.1, HD5.out.box.cells.2.2.1, HD5.out.box.cells.2.2.2.1, (HD5.out.box.cells.2.2.2.2).trans (by rw [HTA.out])⟩ | exact ⟨HD4.out.box.cells.1, HD4.out.box.cells.2.1, HD4.out.box.cells.2.2.1, HD4.out.box.cells.2.2.2.1, (HD4.out.box.cells.2.2.2.2).trans (by rw [HTA.out])⟩ | exact ⟨(HD3.out.put (.slice (some ⟨g3, 0, none⟩) (n2 + 1) c3)).box.cells.1, (HD3.out.put (.slice (some ⟨g3, 0, none⟩) (n2 + 1) c3)).box.cells.2.1, (HD3.out.put (.slice (some ⟨g3, 0, none⟩) (n2 + 1) c3)).box.cells.2.2.1, (HD3.out.put (.slice (some ⟨g3, 0, none⟩) (n2 + 1) c3)).box.cells.2.2.2.1, ((HD3.out.put (.slice (some ⟨g3, 0, none⟩) (n2 + 1) c3)).box.cells.2.2.2.2).trans (by rw [HTA.out])⟩ | exact ⟨HD3.out.box.cells.1, HD3.out.box.cells.2.1, HD3.out.box.cells.2.2.1, HD3.out.box.cells.2.2.2.1, (HD3.out.box.cells.2.2.2.2).trans (by rw [HTA.out])⟩ | exact ⟨HDA.out.box.cells.1, HDA.out.box.cells.2.1, HDA.out.box.cells.2.2.1, HDA.out.box.cells.2.2.2.1, (HDA.out.box.cells.2.2.2.2).trans (by rw [HTA.out])⟩ | exact ⟨HD2.out.drew.box.cells.1, HD2.out.drew.box.cells.2.1, HD2.out.drew.box.cells.2.2.1, HD2.out.drew.box.cells.2.2.2.1, (HD2.out.drew.box.cells.2.2.2.2).trans (by rw [HTA.out])⟩)
        clear hK K
        (try simp only [Act.put])
        refine wpAnyH_ready (rs := [7]) (by kernel_rfl) (by simp) ?_
        refine AllReadyH.cons (o := ?oZ22) ?hiZ22 (fun K hK => ?stZ22) AllReadyH.nil
        case hiZ22 => (simp only [List.getElem?_toArray, List.getElem?_cons_succ, List.getElem?_cons_zero] <;> rfl)
        go_simp
        refine hK.out _ _ ?_ (fun hHeld => ?_)
        · (first | exact ⟨(HD4.out.put (.slice (some ⟨g3, 0, none⟩) (n2 + 1) c3)).box.cells.1, (HD4.out.put (.slice (some ⟨g3, 0, none⟩) (n2 + 1) c3)).box.cells.2.1, (HD4.out.put (.slice (some ⟨g3, 0, none⟩) (n2 + 1) c3)).box.cells.2.2.1, (HD4.out.put (.slice (some ⟨g3, 0, none⟩) (n2 + 1) c3)).box.cells.2.2.2.1, ((HD4.out.put (.slice (some ⟨g3, 0, none⟩) (n2 + 1) c3)).box.cells.2.2.2.2).trans (by rw [HTA.out])⟩ | exact ⟨HD5.out.box.cells.1, HD5.out.box.cells.2.1, HD5.out.box.cells.2.2.1, HD5.out.box.cells.2.2.2.1, (HD5.out.box.cells.2.2.2.2).trans (by rw [HTA.out])⟩ | exact ⟨HD4.out.box.cells.1, HD4.out.box.cells.2.1, HD4.out.box.cells.2.2.1, HD4.out.box.cells.2.2.2.1, (HD4.out.box.cells.2.2.2.2).trans (by rw [HTA.out])⟩ | exact ⟨(HD3.out.put (.slice (some ⟨g3, 0, none⟩) (n2 + 1) c3)).box.cells.1, (HD3.out.put (.slice (some ⟨g3, 0, none⟩) (n2 + 1) c3)).box.cells.2.1, (HD3.out.put (.slice (some ⟨g3, 0, none⟩) (n2 + 1) c3)).box.cells.2.2.1, (HD3.out.put (.slice (some ⟨g3, 0, none⟩) (n2 + 1) c3)).box.cells.2.2.2.1, ((HD3.out.put (.slice (some ⟨g3, 0, none⟩) (n2 + 1) c3)).box.cells.2.2.2.2).trans (by rw [HTA.out])⟩ | exact ⟨HD3.out.box.cells.1, HD3.out.box.cells.2.1, HD3.out.box.cells.2.2.1, HD3.out.box.cells.2.2.2.1, (HD3.out.box.cells.2.2.2.2).trans (by rw [HTA.out])⟩ | exact ⟨HDA.out.box.cells.1, HDA.out.box.cells.2.1, HDA.out.box.cells.2.2.1, HDA.out.box.cells.2.2.2.1, (HDA.out.box.cells.2.2.2.2).trans (by rw [HTA.out])⟩ | exact ⟨HD2.out.drew.box.cells.1, HD2.out.drew.box.cells.2.1, HD2.out.drew.box.cells.2.2.1, HD2.out.drew.box.cells.2.2.2.1, (HD2.out.drew.box.cells.2.2.2.2).trans (by rw [HTA.out])⟩)
        clear hK K
        (try simp only [Act.put])
        refine wpAnyH_done (by kernel_rfl) ?_ _
        go_wp2_with fail
        go_meet
        first | exact ⟨_, HD5.out⟩ | exact ⟨_, HD4.out.put _⟩
      case stZ21 =>
        go_simp
        refine hK.out _ _ ?_ (fun hHeld => ?_)
        · (first | exact ⟨(HD4.out.put (.slice (some ⟨g3, 0, none⟩) (n2 + 1) c3)).box.cells.1, (HD4.out.put (.slice (some ⟨g3, 0, none⟩) (n2 + 1) c3)).box.cells.2.1, (HD4.out.put (.slice (some ⟨g3, 0, none⟩) (n2 + 1) c3)).box.cells.2.2.1, (HD4.out.put (.slice (some ⟨g3, 0, none⟩) (n2 + 1) c3)).box.cells.2.2.2.1, ((HD4.out.put (.slice (some ⟨g3, 0, none⟩) (n2 + 1) c3)).box.cells.2.2.2.2).trans (by rw [HTA.out])⟩ | exact ⟨HD5.out.box.cells.1, HD5.out.box.cells.2.1, HD5.out.box.cells.2.2.1, HD5.out.box.cells.2.2.2.1, (HD5.out.box.cells.2.2.2.2).trans (by rw [HTA.out])⟩ | exact ⟨HD4.out.box.cells.1, HD4.out.box.cells.2.1, HD4.out.box.cells.2.2.1, HD4.out.box.cells.2.2.2.1, (HD4.out.box.cells.2.2.2.2).trans (by rw [HTA.out])⟩ | exact ⟨(HD3.out.put (.slice (some ⟨g3, 0, none⟩) (n2 + 1) c3)).box.cells.1, (HD3.out.put (.slice (some ⟨g3, 0, none⟩) (n2 + 1) c3)).box.cells.2.1, (HD3.out.put (.slice (some ⟨g3, 0, none⟩) (n2 + 1) c3)).box.cells.2.2.1, (HD3.out.put (.slice (some ⟨g3, 0, none⟩) (n2 + 1) c3)).box.cells.2.2.2.1, ((HD3.out.put (.slice (some ⟨g3, 0, none⟩) (n2 + 1) c3)).box.cells.2.2.2.2).trans (by rw [HTA.out])⟩ | exact ⟨HD3.out.box.cells.1, HD3.out.box.cells.2.1, HD3.out.box.cells.2.2.1, HD3.out.box.cells.2.2.2.1, (HD3.out.box.cells.2.2.2.2).trans (by rw [HTA.out])⟩ | exact ⟨HDA.out.box.cells.1, HDA.out.box.cells.2.1, HDA.out.box.cells.2.2.1, HDA.out.box.cells.2.2.2.1, (HDA.out.box.cells.2.2.2.2).trans (by rw [HTA.out])⟩ | exact ⟨HD2.out.drew.box.cells.1, HD2.out.drew.box.cells.2.1, HD2.out.drew.box.cells.2.2.1, HD2.out.drew.box.cells.2.2.2.1, (HD2.out.drew.box.cells.2.2.2.2).trans (by rw [HTA.out])⟩)
        clear hK K
        (try simp only [Act.put])
        refine wpAnyH_ready (rs := [6]) (by kernel_rfl) (by simp) ?_
        refine AllReadyH.cons (o := ?oZ23) ?hiZ23 (fun K hK => ?stZ23) AllReadyH.nil
        case hiZ23 => (simp only [List.getElem?_toArray, List.getElem?_cons_succ, List.getElem?_cons_zero] <;> rfl)
        refine step_store_last _ rfl 27 (.tmp 18) (.tmp 14) rfl wb.heap.size 27 g3 n2 c3 (hs ++ hs2) hZ h HN2.out (HD3.out.put (.slice (some ⟨g3, 0, none⟩) (n2 + 1) c3)).own rfl (by unfold TH.v; rw [HTA.out]; rfl) infoTree5 ?_
        intro w5 ho4 hg4
        have hd4 := (HD3.out.put (.slice (some ⟨g3, 0, none⟩) (n2 + 1) c3)).grown ho4 hg4 (.inl rfl)
        have HD5 := Lib.hid hd4
        have cn4 := hd4.var.cell
        have cf4 := hd4.var.frozen 0
        clear ho4 hg4 hd4
        refine hK.out _ _ ?_ (fun hHeld => ?_)
        · (first | exact ⟨(HD4.out.put (.slice (some ⟨g3, 0, none⟩) (n2 + 1) c3)).box.cells.1, (HD4.out.put (.slice (some ⟨g3, 0, none⟩) (n2 + 1) c3)).box.cells.2.1, (HD4.out.put (.slice (some ⟨g3, 0, none⟩) (n2 + 1) c3)).box.cells.2.2.1, (HD4.out.put (.slice (some ⟨g3, 0, none⟩) (n2 + 1) c3)).box.cells.2.2.2.1, ((HD4.out.put (.slice (some ⟨g3, 0, none⟩) (n2 + 1) c3)).box.cells.2.2.2.2).trans (by rw [HTA.out])⟩ | exact ⟨HD5.out.box.cells.1, HD5.out.box.cells.2.1, HD5.out.box.cells.2.2.1, HD5.out.box.cells.2.2.2.1, (HD5.out.box.cells.2.2.2.2).trans (by rw [HTA.out])⟩ | exact ⟨HD4.out.box.cells.1, HD4.out.box.cells.2.1, HD4.out.box.cells.2.2.1, HD4.out.box.cells.2.2.2.1, (HD4.out.box.cells.2.2.2.2).trans (by rw [HTA.out])⟩ | exact ⟨(HD3.out.put (.slice (some ⟨g3, 0, none⟩) (n2 + 1) c3)).box.cells.1, (HD3.out.put (.slice (some ⟨g3, 0, none⟩) (n2 + 1) c3)).box.cells.2.1, (HD3.out.put (.slice (some ⟨g3, 0, none⟩) (n2 + 1) c3)).box.cells.2.2.1, (HD3.out.put (.slice (some ⟨g3, 0, none⟩) (n2 + 1) c3)).box.cells.2.2.2.1, ((HD3.out.put (.slice (some ⟨g3, 0, none⟩) (n2 + 1) c3)).box.cells.2.2.2.2).trans (by rw [HTA.out])⟩ | exact ⟨HD3.out.box.cells.1, HD3.out.box.cells.2.1, HD3.out.box.cells.2.2.1, HD3.out.box.cells.2.2.2.1, (HD3.out.box.cells.2.2.2.2).trans (by rw [HTA.out])⟩ | exact ⟨HDA.out.box.cells.1, HDA.out.box.cells.2.1, HDA.out.box.cells.2.2.1, HDA.out.box.cells.2.2.2.1, (HDA.out.box.cells.2.2.2.2).trans (by rw [HTA.out])⟩ | exact ⟨HD2.out.drew.box.cells.1, HD2.out.drew.box.cells.2.1, HD2.out.drew.box.cells.2.2.1, HD2.out.drew.box.cells.2.2.2.1, (HD2.out.drew.box.cells.2.2.2.2).trans (by rw [HTA.out])⟩)
        clear hK K
        (try simp only [Act.put])
        refine wpAnyH_done (by kernel_rfl) ?_ _
        go_wp2_with fail
        go_meet
        first | exact ⟨_, HD5.out⟩ | exact ⟨_, HD4.out.put _⟩
    case stZ15 =>
      go_simp
      refine hK.out _ _ ?_ (fun hHeld => ?_)
      · (first | exact ⟨(HD4.out.put (.slice (some ⟨g3, 0, none⟩) (n2 + 1) c3)).box.cells.1, (HD4.out.put (.slice (some ⟨g3, 0, none⟩) (n2 + 1) c3)).box.cells.2.1, (HD4.out.put (.slice (some ⟨g3, 0, none⟩) (n2 + 1) c3)).box.cells.2.2.1, (HD4.out.put (.slice (some ⟨g3, 0, none⟩) (n2 + 1) c3)).box.cells.2.2.2.1, ((HD4.out.put (.slice (some ⟨g3, 0, none⟩) (n2 + 1) c3)).box.cells.2.2.2.2).trans (by rw [HTA.out])⟩ | exact ⟨HD5.out.box.cells.1, HD5.out.box.cells.2.1, HD5.out.box.cells.2.2.1, HD5.out.box.cells.2.2.2.1, (HD5.out.box.cells.2.2.2.2).trans (by rw [HTA.out])⟩ | exact ⟨HD4.out.box.cells.1, HD4.out.box.cells.2.1, HD4.out.box.cells.2.2.1, HD4.out.box.cells.2.2.2.1, (HD4.out.box.cells.2.2.2.2).trans (by rw [HTA.out])⟩ | exact ⟨(HD3.out.put (.slice (some ⟨g3, 0, none⟩) (n2 + 1) c3)).box.cells.1, (HD3.out.put (.slice (some ⟨g3, 0, none⟩) (n2 + 1) c3)).box.cells.2.1, (HD3.out.put (.slice (some ⟨g3, 0, none⟩) (n2 + 1) c3)).box.cells.2.2.1, (HD3.out.put (.slice (some ⟨g3, 0, none⟩) (n2 + 1) c3)).box.cells.2.2.2.1, ((HD3.out.put (.slice (some ⟨g3, 0, none⟩) (n2 + 1) c3)).box.cells.2.2.2.2).trans (by rw [HTA.out])⟩ | exact ⟨HD3.out.box.cells.1, HD3.out.box.cells.2.1, HD3.out.box.cells.2.2.1, HD3.out.box.cells.2.2.2.1, (HD3.out.box.cells.2.2.2.2).trans (by rw [HTA.out])⟩ | exact ⟨HDA.out.box.cells.1, HDA.out.box.cells.2.1, HDA.out.box.cells.2.2.1, HDA.out.box.cells.2.2.2.1, (HDA.out.box.cells.2.2.2.2).trans (by rw [HTA.out])⟩ | exact ⟨HD2.out.drew.box.cells.1, HD2.out.drew.box.cells.2.1, HD2.out.drew.box.cells.2.2.1, HD2.out.drew.box.cells.2.2.2.1, (HD2.out.drew.box.cells.2.2.2.2).trans (by rw [HTA.out])⟩)
      clear hK K
      (try simp only [Act.put, List.setIfInBounds_toArray, List.set_cons_zero, List.set_cons_succ])
      refine wpAnyH_ready (rs := [0]) (by kernel_rfl) (by simp) ?_
      refine AllReadyH.cons (o := ?oZ24) ?hiZ24 (fun K hK => ?stZ24) AllReadyH.nil
      case hiZ24 => (simp only [List.getElem?_toArray, List.getElem?_cons_zero] <;> rfl)
      go_simp
      refine hK.out _ _ ?_ (fun hHeld => ?_)
      · (first | exact ⟨(HD4.out.put (.slice (some ⟨g3, 0, none⟩) (n2 + 1) c3)).box.cells.1, (HD4.out.put (.slice (some ⟨g3, 0, none⟩) (n2 + 1) c3)).box.cells.2.1, (HD4.out.put (.slice (some ⟨g3, 0, none⟩) (n2 + 1) c3)).box.cells.2.2.1, (HD4.out.put (.slice (some ⟨g3, 0, none⟩) (n2 + 1) c3)).box.cells.2.2.2.1, ((HD4.out.put (.slice (some ⟨g3, 0, none⟩) (n2 + 1) c3)).box.cells.2.2.2.2).trans (by rw [HTA.out])⟩ | exact ⟨HD5.out.box.cells.1, HD5.out.box.cells.2.1, HD5.out.box.cells.2.2.1, HD5.out.box.cells.2.2.2.1, (HD5.out.box.cells.2.2.2.2).trans (by rw [HTA.out])⟩ | exact ⟨HD4.out.box.cells.1, HD4.out.box.cells.2.1, HD4.out.box.cells.2.2.1, HD4.out.box.cells.2.2.2.1, (HD4.out.box.cells.2.2.2.2).trans (by rw [HTA.out])⟩ | exact ⟨(HD3.out.put (.slice (some ⟨g3, 0, none⟩) (n2 + 1) c3)).box.cells.1, (HD3.out.put (.slice (some ⟨g3, 0, none⟩) (n2 + 1) c3)).box.cells.2.1, (HD3.out.put (.slice (some ⟨g3, 0, none⟩) (n2 + 1) c3)).box.cells.2.2.1, (HD3.out.put (.slice (some ⟨g3, 0, none⟩) (n2 + 1) c3)).box.cells.2.2.2.1, ((HD3.out.put (.slice (some ⟨g3, 0, none⟩) (n2 + 1) c3)).box.cells.2.2.2.2).trans (by rw [HTA.out])⟩ | exact ⟨HD3.out.box.cells.1, HD3.out.box.cells.2.1, HD3.out.box.cells.2.2.1, HD3.out.box.cells.2.2.2.1, (HD3.out.box.cells.2.2.2.2).trans (by rw [HTA.out])⟩ | exact ⟨HDA.out.box.cells.1, HDA.out.box.cells.2.1, HDA.out.box.cells.2.2.1, HDA.out.box.cells.2.2.2.1, (HDA.out.box.cells.2.2.2.2).trans (by rw [HTA.out])⟩ | exact ⟨HD2.out.drew.box.cells.1, HD2.out.drew.box.cells.2.1, HD2.out.drew.box.cells.2.2.1, HD2.out.drew.box.cells.2.2.2.1, (HD2.out.drew.box.cells.2.2.2.2).trans (by rw [HTA.out])⟩)
      clear hK K
      (try simp only [Act.put, List.setIfInBounds_toArray, List.set_cons_zero, List.set_cons_succ])
      refine take_w (i := 2) (oi := ?oZ25) (v := ?vZ25) ?hiZ25 (by kernel_rfl) (by kernel_rfl) (by kernel_rfl) ?hQZ25 ?hwZ25 ?hyZ25 (by assumption) ?restZ25
      case hiZ25 => (simp only [List.getElem?_toArray, List.getElem?_cons_succ, List.getElem?_cons_zero] <;> rfl)
      case hQZ25 => exact (fun _ _ _ h => h)
      case hwZ25 => rfl
      case hyZ25 => (intro w hSw; (try dsimp only at hSw); go_simp; try with_reducible rfl)
      (try simp only [Act.put, List.setIfInBounds_toArray, List.set_cons_zero, List.set_cons_succ])
      refine wpAnyH_ready (rs := [4]) (by kernel_rfl) (by simp) ?_
      refine AllReadyH.cons (o := ?oZ26) ?hiZ26 (fun K hK => ?stZ26) AllReadyH.nil
      case hiZ26 => (simp only [List.getElem?_toArray, List.getElem?_cons_succ, List.getElem?_cons_zero] <;> rfl)
      refine step_append_trees _ rfl (.tmp 13) (.tmp 16) 25 rfl wb.heap.size 27 ti _ 104 Tryd.underlying25 hti hz0 hz1 hz2 rfl (.slice a2 n2 c2) (hs ++ hs2) rfl HDA.out.own w2.heap.size 1 [hZ] rfl HZB.out.row (by rw [HN2.out]; simp only [List.length_cons, List.length_nil]; omega) (by omega) HDA.out.b.size ?_
      intro v3 w3 ho3 hg3 hob3
      have hl3 : (hs ++ hs2 ++ [hZ]).length = n2 + 1 := by rw [List.length_append, HN2.out]; rfl
      rcases ho3.form with ⟨_, q1⟩ | ⟨g3, c3, q1, -, -, -, -, -⟩
      · exfalso
        rw [q1] at hl3
        simp at hl3
      rw [hl3] at q1
      subst q1
      clear hl3
      have hd3 := HDA.out.grown ho3 hg3 hob3
      have HD3 := Lib.hid hd3
      have cn3 := hd3.var.cell
      have cf3 := hd3.var.frozen 0
      clear ho3 hg3 hob3 hd3
      refine hK.out _ _ ?_ (fun hHeld => ?_)
      · (first | exact ⟨(HD4.out.put (.slice (some ⟨g3, 0, none⟩) (n2 + 1) c3)).box.cells.1, (HD4.out.put (.slice (some ⟨g3, 0, none⟩) (n2 + 1) c3)).box.cells.2.1, (HD4.out.put (.slice (some ⟨g3, 0, none⟩) (n2 + 1) c3)).box.cells.2.2.1, (HD4.out.put (.slice (some ⟨g3, 0, none⟩) (n2 + 1) c3)).box.cells.2.2.2.1, ((HD4.out.put (.slice (some ⟨g3, 0, none⟩) (n2 + 1) c3)).box.cells.2.2.2.2).trans (by rw [HTA.out])⟩ | exact ⟨HD5.out.box.cells.1, HD5.out.box.cells.2.1, HD5.out.box.cells.2.2.1, HD5.out.box.cells.2.2.2.1, (HD5.out.box.cells.2.2.2.2).trans (by rw [HTA.out])⟩ | exact ⟨HD4.out.box.cells.1, HD4.out.box.cells.2.1, HD4.out.box.cells.2.2.1, HD4.out.box.cells.2.2.2.1, (HD4.out.box.cells.2.2.2.2).trans (by rw [HTA.out])⟩ | exact ⟨(HD3.out.put (.slice (some ⟨g3, 0, none⟩) (n2 + 1) c3)).box.cells.1, (HD3.out.put (.slice (some ⟨g3, 0, none⟩) (n2 + 1) c3)).box.cells.2.1, (HD3.out.put (.slice (some ⟨g3, 0, none⟩) (n2 + 1) c3)).box.cells.2.2.1, (HD3.out.put (.slice (some ⟨g3, 0, none⟩) (n2 + 1) c3)).box.cells.2.2.2.1, ((HD3.out.put (.slice (some ⟨g3, 0, none⟩) (n2 + 1) c3)).box.cells.2.2.2.2).trans (by rw [HTA.out])⟩ | exact ⟨HD3.out.box.cells.1, HD3.out.box.cells.2.1, HD3.out.box.cells.2.2.1, HD3.out.box.cells.2.2.2.1, (HD3.out.box.cells.2.2.2.2).trans (by rw [HTA.out])⟩ | exact ⟨HDA.out.box.cells.1, HDA.out.box.cells.2.1, HDA.out.box.cells.2.2.1, HDA.out.box.cells.2.2.2.1, (HDA.out.box.cells.2.2.2.2).trans (by rw [HTA.out])⟩ | exact ⟨HD2.out.drew.box.cells.1, HD2.out.drew.box.cells.2.1, HD2.out.drew.box.cells.2.2.1, HD2.out.drew.box.cells.2.2.2.1, (HD2.out.drew.box.cells.2.2.2.2).trans (by rw [HTA.out])⟩)
      clear hK K
      (try simp only [Act.put, List.setIfInBounds_toArray, List.set_cons_zero, List.set_cons_succ])
      refine take_w (i := 5) (oi := ?oZ27) (v := ?vZ27) ?hiZ27 (by kernel_rfl) (by kernel_rfl) (by kernel_rfl) ?hQZ27 ?hwZ27 ?hyZ27 (by assumption) ?restZ27
      case hiZ27 => (simp only [List.getElem?_toArray, List.getElem?_cons_succ, List.getElem?_cons_zero] <;> rfl)
      case hQZ27 => exact (fun _ _ _ h => h)
      case hwZ27 => rfl
      case hyZ27 => (intro w hSw; (try dsimp only at hSw); go_simp; try with_reducible rfl)
      (try simp only [Act.put, List.setIfInBounds_toArray, List.set_cons_zero, List.set_cons_succ])
      refine wpAnyH_ready (rs := [6, 7]) (by kernel_rfl) (by simp) ?_
      refine AllReadyH.cons (o := ?oZ28) ?hiZ28 (fun K hK => ?stZ28) (AllReadyH.cons (o := ?oZ29) ?hiZ29 (fun K hK => ?stZ29) AllReadyH.nil)
      case hiZ28 => (simp only [List.getElem?_toArray, List.getElem?_cons_succ, List.getElem?_cons_zero] <;> rfl)
      case hiZ29 => (simp only [List.getElem?_toArray, List.getElem?_cons_succ, List.getElem?_cons_zero] <;> rfl)
      case stZ28 =>
        refine step_store_last _ rfl 27 (.tmp 18) (.tmp 14) rfl wb.heap.size 27 g3 n2 c3 (hs ++ hs2) hZ h HN2.out HD3.out.own rfl (by unfold TH.v; rw [HTA.out]; rfl) infoTree5 ?_
        intro w4 ho4 hg4
        have hd4 := HD3.out.grown ho4 hg4 (.inl rfl)
        have HD4 := Lib.hid hd4
        have cn4 := hd4.var.cell
        have cf4 := hd4.var.frozen 0
        clear ho4 hg4 hd4
        refine hK.out _ _ ?_ (fun hHeld => ?_)
        · (first | exact ⟨(HD4.out.put (.slice (some ⟨g3, 0, none⟩) (n2 + 1) c3)).box.cells.1, (HD4.out.put (.slice (some ⟨g3, 0, none⟩) (n2 + 1) c3)).box.cells.2.1, (HD4.out.put (.slice (some ⟨g3, 0, none⟩) (n2 + 1) c3)).box.cells.2.2.1, (HD4.out.put (.slice (some ⟨g3, 0, none⟩) (n2 + 1) c3)).box.cells.2.2.2.1, ((HD4.out.put (.slice (some ⟨g3, 0, none⟩) (n2 + 1) c3)).box.cells.2.2.2.2).trans (by rw [HTA.out])⟩ | exact ⟨HD5.out.box.cells.1, HD5.out.box.cells.2.1, HD5.out.box.cells.2.2.1, HD5.out.box.cells.2.2.2.1, (HD5.out.box.cells.2.2.2.2).trans (by rw [HTA.out])⟩ | exact ⟨HD4.out.box.cells.1, HD4.out.box.cells.2.1, HD4.out.box.cells.2.2.1, HD4.out.box.cells.2.2.2.1, (HD4.out.box.cells.2.2.2.2).trans (by rw [HTA.out])⟩ | exact ⟨(HD3.out.put (.slice (some ⟨g3, 0, none⟩) (n2 + 1) c3)).box.cells.1, (HD3.out.put (.slice (some ⟨g3, 0, none⟩) (n2 + 1) c3)).box.cells.2.1, (HD3.out.put (.slice (some ⟨g3, 0, none⟩) (n2 + 1) c3)).box.cells.2.2.1, (HD3.out.put (.slice (some ⟨g3, 0, none⟩) (n2 + 1) c3)).box.cells.2.2.2.1, ((HD3.out.put (.slice (some ⟨g3, 0, none⟩) (n2 + 1) c3)).box.cells.2.2.2.2).trans (by rw [HTA.out])⟩ | exact ⟨HD3.out.box.cells.1, HD3.out.box.cells.2.1, HD3.out.box.cells.2.2.1, HD3.out.box.cells.2.2.2.1, (HD3.out.box.cells.2.2.2.2).trans (by rw [HTA.out])⟩ | exact ⟨HDA.out.box.cells.1, HDA.out.box.cells.2.1, HDA.out.box.cells.2.2.1, HDA.out.box.cells.2.2.2.1, (HDA.out.box.cells.2.2.2.2).trans (by rw [HTA.out])⟩ | exact ⟨HD2.out.drew.box.cells.1, HD2.out.drew.box.cells.2.1, HD2.out.drew.box.cells.2.2.1, HD2.out.drew.box.cells.2.2.2.1, (HD2.out.drew.box.cells.2.2.2.2).trans (by rw [HTA.out])⟩)
        clear hK K
        (try simp only [Act.put])
        refine wpAnyH_ready (rs := [7]) (by kernel_rfl) (by simp) ?_
        refine AllReadyH.cons (o := ?oZ30) ?hiZ30 (fun K hK => ?stZ30) AllReadyH.nil
        case hiZ30 => (simp only [List.getElem?_toArray, List.getElem?_cons_succ, List.getElem?_cons_zero] <;> rfl)
        go_simp
        refine hK.out _ _ ?_ (fun hHeld => ?_)
        · (first | exact ⟨(HD4.out.put (.slice (some ⟨g3, 0, none⟩) (n2 + 1) c3)).box.cells.1, (HD4.out.put (.slice (some ⟨g3, 0, none⟩) (n2 + 1) c3)).box.cells.2.1, (HD4.out.put (.slice (some ⟨g3, 0, none⟩) (n2 + 1) c3)).box.cells.2.2.1, (HD4.out.put (.slice (some ⟨g3, 0, none⟩) (n2 + 1) c3)).box.cells.2.2.2.1, ((HD4.out.put (.slice (some ⟨g3, 0, none⟩) (n2 + 1) c3)).box.cells.2.2.2.2).trans (by rw [HTA.out])⟩ | exact ⟨HD5.out.box.cells.1, HD5.out.box.cells.2.1, HD5.out.box.cells.2.2.1, HD5.out.box.cells.2.2.2.1, (HD5.out.box.cells.2.2.2.2).trans (by rw [HTA.out])⟩ | exact ⟨HD4.out.box.cells.1, HD4.out.box.cells.2.1, HD4.out.box.cells.2.2.1, HD4.out.box.cells.2.2.2.1, (HD4.out.box.cells.2.2.2.2).trans (by rw [HTA.out])⟩ | exact ⟨(HD3.out.put (.slice (some ⟨g3, 0, none⟩) (n2 + 1) c3)).box.cells.1, (HD3.out.put (.slice (some ⟨g3, 0, none⟩) (n2 + 1) c3)).box.cells.2.1, (HD3.out.put (.slice (some ⟨g3, 0, none⟩) (n2 + 1) c3)).box.cells.2.2.1, (HD3.out.put (.slice (some ⟨g3, 0, none⟩) (n2 + 1) c3)).box.cells.2.2.2.1, ((HD3.out.put (.slice (some ⟨g3, 0, none⟩) (n2 + 1) c3)).box.cells.2.2.2.2).trans (by rw [HTA.out])⟩ | exact ⟨HD3.out.box.cells.1, HD3.out.box.cells.2.1, HD3.out.box.cells.2.2.1, HD3.out.box.cells.2.2.2.1, (HD3.out.box.cells.2.2.2.2).trans (by rw [HTA.out])⟩ | exact ⟨HDA.out.box.cells.1, HDA.out.box.cells.2.1, HDA.out.box.cells.2.2.1, HDA.out.box.cells.2.2.2.1, (HDA.out.box.cells.2.2.2.2).trans (by rw [HTA.out])⟩ | exact ⟨HD2.out.drew.box.cells.1, HD2.out.drew.box.cells.2.1, HD2.out.drew.box.cells.2.2.1, HD2.out.drew.box.cells.2.2.2.1, (HD2.out.drew.box.cells.2.2.2.2).trans (by rw [HTA.out])⟩)
        clear hK K
        (try simp only [Act.put])
        refine wpAnyH_done (by kernel_rfl) ?_ _
        go_wp2_with fail
        go_meet
        first | exact ⟨_, HD5.out⟩ | exact ⟨_, HD4.out.put _⟩
      case stZ29 =>
        go_simp
        refine hK.out _ _ ?_ (fun hHeld => ?_)
        · (first | exact ⟨(HD4.out.put (.slice (some ⟨g3, 0, none⟩) (n2 + 1) c3)).box.cells.1, (HD4.out.put (.slice (some ⟨g3, 0, none⟩) (n2 + 1) c3)).box.cells.2.1, (HD4.out.put (.slice (some ⟨g3, 0, none⟩) (n2 + 1) c3)).box.cells.2.2.1, (HD4.out.put (.slice (some ⟨g3, 0, none⟩) (n2 + 1) c3)).box.cells.2.2.2.1, ((HD4.out.put (.slice (some ⟨g3, 0, none⟩) (n2 + 1) c3)).box.cells.2.2.2.2).trans (by rw [HTA.out])⟩ | exact ⟨HD5.out.box.cells.1, HD5.out.box.cells.2.1, HD5.out.box.cells.2.2.1, HD5.out.box.cells.2.2.2.1, (HD5.out.box.cells.2.2.2.2).trans (by rw [HTA.out])⟩ | exact ⟨HD4.out.box.cells.1, HD4.out.box.cells.2.1, HD4.out.box.cells.2.2.1, HD4.out.box.cells.2.2.2.1, (HD4.out.box.cells.2.2.2.2).trans (by rw [HTA.out])⟩ | exact ⟨(HD3.out.put (.slice (some ⟨g3, 0, none⟩) (n2 + 1) c3)).box.cells.1, (HD3.out.put (.slice (some ⟨g3, 0, none⟩) (n2 + 1) c3)).box.cells.2.1, (HD3.out.put (.slice (some ⟨g3, 0, none⟩) (n2 + 1) c3)).box.cells.2.2.1, (HD3.out.put (.slice (some ⟨g3, 0, none⟩) (n2 + 1) c3)).box.cells.2.2.2.1, ((HD3.out.put (.slice (some ⟨g3, 0, none⟩) (n2 + 1) c3)).box.cells.2.2.2.2).trans (by rw [HTA.out])⟩ | exact ⟨HD3.out.box.cells.1, HD3.out.box.cells.2.1, HD3.out.box.cells.2.2.1, HD3.out.box.cells.2.2.2.1, (HD3.out.box.cells.2.2.2.2).trans (by rw [HTA.out])⟩ | exact ⟨HDA.out.box.cells.1, HDA.out.box.cells.2.1, HDA.out.box.cells.2.2.1, HDA.out.box.cells.2.2.2.1, (HDA.out.box.cells.2.2.2.2).trans (by rw [HTA.out])⟩ | exact ⟨HD2.out.drew.box.cells.1, HD2.out.drew.box.cells.2.1, HD2.out.drew.box.cells.2.2.1, HD2.out.drew.box.cells.2.2.2.1, (HD2.out.drew.box.cells.2.2.2.2).trans (by rw [HTA.out])⟩)
        clear hK K
        (try simp only [Act.put])
        refine wpAnyH_ready (rs := [6]) (by kernel_rfl) (by simp) ?_
        refine AllReadyH.cons (o := ?oZ31) ?hiZ31 (fun K hK => ?stZ31) AllReadyH.nil
        case hiZ31 => (simp only [List.getElem?_toArray, List.getElem?_cons_succ, List.getElem?_cons_zero] <;> rfl)
        refine step_store_last _ rfl 27 (.tmp 18) (.tmp 14) rfl wb.heap.size 27 g3 n2 c3 (hs ++ hs2) hZ h HN2.out (HD3.out.put (.slice (some ⟨g3, 0, none⟩) (n2 + 1) c3)).own rfl (by unfold TH.v; rw [HTA.out]; rfl) infoTree5 ?_
        intro w5 ho4 hg4
        have hd4 := (HD3.out.put (.slice (some ⟨g3, 0, none⟩) (n2 + 1) c3)).grown ho4 hg4 (.inl rfl)
        have HD5 := Lib.hid hd4
        have cn4 := hd4.var.cell
        have cf4 := hd4.var.frozen 0
        clear ho4 hg4 hd4
        refine hK.out _ _ ?_ (fun hHeld => ?_)
        · (first | exact ⟨(HD4.out.put (.slice (some ⟨g3, 0, none⟩) (n2 + 1) c3)).box.cells.1, (HD4.out.put (.slice (some ⟨g3, 0, none⟩) (n2 + 1) c3)).box.cells.2.1, (HD4.out.put (.slice (some ⟨g3, 0, none⟩) (n2 + 1) c3)).box.cells.2.2.1, (HD4.out.put (.slice (some ⟨g3, 0, none⟩) (n2 + 1) c3)).box.cells.2.2.2.1, ((HD4.out.put (.slice (some ⟨g3, 0, none⟩) (n2 + 1) c3)).box.cells.2.2.2.2).trans (by rw [HTA.out])⟩ | exact ⟨HD5.out.box.cells.1, HD5.out.box.cells.2.1, HD5.out.box.cells.2.2.1, HD5.out.box.cells.2.2.2.1, (HD5.out.box.cells.2.2.2.2).trans (by rw [HTA.out])⟩ | exact ⟨HD4.out.box.cells.1, HD4.out.box.cells.2.1, HD4.out.box.cells.2.2.1, HD4.out.box.cells.2.2.2.1, (HD4.out.box.cells.2.2.2.2).trans (by rw [HTA.out])⟩ | exact ⟨(HD3.out.put (.slice (some ⟨g3, 0, none⟩) (n2 + 1) c3)).box.cells.1, (HD3.out.put (.slice (some ⟨g3, 0, none⟩) (n2 + 1) c3)).box.cells.2.1, (HD3.out.put (.slice (some ⟨g3, 0, none⟩) (n2 + 1) c3)).box.cells.2.2.1, (HD3.out.put (.slice (some ⟨g3, 0, none⟩) (n2 + 1) c3)).box.cells.2.2.2.1, ((HD3.out.put (.slice (some ⟨g3, 0, none⟩) (n2 + 1) c3)).box.cells.2.2.2.2).trans (by rw [HTA.out])⟩ | exact ⟨HD3.out.box.cells.1, HD3.out.box.cells.2.1, HD3.out.box.cells.2.2.1, HD3.out.box.cells.2.2.2.1, (HD3.out.box.cells.2.2.2.2).trans (by rw [HTA.out])⟩ | exact ⟨HDA.out.box.cells.1, HDA.out.box.cells.2.1, HDA.out.box.cells.2.2.1, HDA.out.box.cells.2.2.2.1, (HDA.out.box.cells.2.2.2.2).trans (by rw [HTA.out])⟩ | exact ⟨HD2.out.drew.box.cells.1, HD2.out.drew.box.cells.2.1, HD2.out.drew.box.cells.2.2.1, HD2.out.drew.box.cells.2.2.2.1, (HD2.out.drew.box.cells.2.2.2.2).trans (by rw [HTA.out])⟩)
        clear hK K
        (try simp only [Act.put])
        refine wpAnyH_done (by kernel_rfl) ?_ _
        go_wp2_with fail
        go_meet
        first | exact ⟨_, HD5.out⟩ | exact ⟨_, HD4.out.put _⟩
  case rest =>
    obtain ⟨v3, hd3⟩ := hcut
    have HD3 := Lib.hid hd3
    clear hd3 HD2 HD1
    have hbd1 : (hs ++ hs2 ++ [h]).length + countT t.kids[1] ≤ 1000 := by rw [List.length_append, HN2.out]; simp only [List.length_cons, List.length_nil]; omega
    clear hbd3 hbd4
    go_upto_region 4 with fail
    refine wp_region_held_drew (S := (fun W => W.cell? ⟨gc, 0, none⟩ = some (.func (.func 54) #[] #[.pointer (some ⟨gc, 0, none⟩), .pointer (some ⟨gn, 0, none⟩)]) ∧ W.cell? ⟨w.heap.size, 4, none⟩ = some (.slice (some ⟨g, off, none⟩) h.tn h.tc) ∧ W.cell? ⟨g, off + 5, none⟩ = some (.int .i64 (H 1).k) ∧ W.cell? ⟨g, off + 5 + 1, none⟩ = some (.slice (H 1).ka (H 1).kn (H 1).kc) ∧ W.cell? ⟨g, off + 5 + 2, none⟩ = some (.slice (H 1).va (H 1).vn (H 1).vc) ∧ W.cell? ⟨g, off + 5 + 3, none⟩ = some (.slice (H 1).da (H 1).dn (H 1).dc) ∧ W.cell? ⟨g, off + 5 + 4, none⟩ = some (.slice (H 1).ta (H 1).tn (H 1).tc))) (by kernel_rfl) ⟨HD3.out.drew.clo.cell, (HD3.out.drew.box.cells.2.2.2.2).trans (by rw [HTA.out]), (HP.out.below HD3.out.drew.b).kid1 HTA.out (by omega)⟩ (fun hHeld => ?_)
    refine take_w (i := 0) (oi := ?oZ7) (v := ?vZ7) ?hiZ7 (by kernel_rfl) (by kernel_rfl) (by kernel_rfl) ?hQZ7 ?hwZ7 ?hyZ7 (by assumption) ?restZ7
    case hiZ7 => (simp only [List.getElem?_toArray, List.getElem?_cons_zero] <;> rfl)
    case hQZ7 => exact (fun _ _ _ h => h)
    case hwZ7 => rfl
    case hyZ7 => (intro w hSw; (try dsimp only at hSw); go_simp; try with_reducible rfl)
    (try simp only [Act.put, List.setIfInBounds_toArray, List.set_cons_zero, List.set_cons_succ])
    refine take_w (i := 1) (oi := ?oZ8) (v := ?vZ8) ?hiZ8 (by kernel_rfl) (by kernel_rfl) (by kernel_rfl) ?hQZ8 ?hwZ8 ?hyZ8 (by assumption) ?restZ8
    case hiZ8 => (simp only [List.getElem?_toArray, List.getElem?_cons_succ, List.getElem?_cons_zero] <;> rfl)
    case hQZ8 => exact (fun _ _ _ h => h)
    case hwZ8 => rfl
    case hyZ8 => (intro w hSw; (try dsimp only at hSw); go_simp; try with_reducible rfl)
    (try simp only [Act.put, List.setIfInBounds_toArray, List.set_cons_zero, List.set_cons_succ])
    refine take_w (i := 2) (oi := ?oZ9) (v := ?vZ9) ?hiZ9 (by kernel_rfl) (by kernel_rfl) (by kernel_rfl) ?hQZ9 ?hwZ9 ?hyZ9 (by assumption) ?restZ9
    case hiZ9 => (simp only [List.getElem?_toArray, List.getElem?_cons_succ, List.getElem?_cons_zero] <;> rfl)
    case hQZ9 => exact (fun _ _ _ h => h)
    case hwZ9 => rfl
    case hyZ9 => (intro w hSw; (try dsimp only at hSw); go_simp; try with_reducible rfl)
    (try simp only [Act.put, List.setIfInBounds_toArray, List.set_cons_zero, List.set_cons_succ])
    refine take_w (i := 3) (oi := ?oZ10) (v := ?vZ10) ?hiZ10 (by kernel_rfl) (by kernel_rfl) (by kernel_rfl) ?hQZ10 ?hwZ10 ?hyZ10 (by assumption) ?restZ10
    case hiZ10 => (simp only [List.getElem?_toArray, List.getElem?_cons_succ, List.getElem?_cons_zero] <;> rfl)
    case hQZ10 => exact (fun _ _ _ h => h)
    case hwZ10 => rfl
    case hyZ10 => (intro w hSw; (try dsimp only at hSw); go_simp; try with_reducible rfl)
    (try simp only [Act.put, List.setIfInBounds_toArray, List.set_cons_zero, List.set_cons_succ])
    refine take_w (i := 4) (oi := ?oZ11) (v := ?vZ11) ?hiZ11 (by kernel_rfl) (by kernel_rfl) (by kernel_rfl) ?hQZ11 ?hwZ11 ?hyZ11 (by assumption) ?restZ11
    case hiZ11 => (simp only [List.getElem?_toArray, List.getElem?_cons_succ, List.getElem?_cons_zero] <;> rfl)
    case hQZ11 => exact (fun _ _ _ h => h)
    case hwZ11 => rfl
    case hyZ11 => (intro w hSw; (try dsimp only at hSw); go_simp; try with_reducible rfl)
    (try simp only [Act.put, List.setIfInBounds_toArray, List.set_cons_zero, List.set_cons_succ])
    refine wpAnyH_ready (rs := [5]) (by kernel_rfl) (by simp) ?_
    refine AllReadyH.cons (o := ?oZ12) ?hiZ12 (fun K hK => ?stZ12) AllReadyH.nil
    case hiZ12 => (simp only [List.getElem?_toArray, List.getElem?_cons_succ, List.getElem?_cons_zero] <;> rfl)
    go_simp
    go_at_call 54
    refine (IH.out _ (List.getElem_mem l1) (H 1) _ gc gn _ _ (HP.out.kids 1 l1) (HF.out 1 l1) hbd1 HD3.out.drew.b HD3.out.drew.ge HD3.out.drew.clo HD3.out.drew.var HD3.out.drew.own).mono ?_
    rintro _ w4 ⟨v4, hs4, rfl, hv4, ho4, hh4, hk4⟩
    have HD4 := Lib.hid (HD3.out.drew.step hv4 ho4 hk4)
    have HH4 := Lib.hid hh4
    clear hv4 ho4 hh4 hk4
    go_simp
    refine hK.out _ _ ?_ (fun hHeld => ?_)
    · (first | exact ⟨HD4.out.clo.cell, (HD4.out.box.cells.2.2.2.2).trans (by rw [HTA.out]), (HP.out.below HD4.out.b).kid1 HTA.out (by omega)⟩ | exact ⟨HD3.out.drew.clo.cell, (HD3.out.drew.box.cells.2.2.2.2).trans (by rw [HTA.out]), (HP.out.below HD3.out.drew.b).kid1 HTA.out (by omega)⟩)
    clear hK K
    (try simp only [Act.put, List.setIfInBounds_toArray, List.set_cons_zero, List.set_cons_succ])
    refine wpAnyH_done (by kernel_rfl) ?_ _
    
    clear hHeld
    go_wp2_with fail
    first | go_end0 | refine bodyPost_ret (results_none rfl _ _ _) rfl ?_
    refine ⟨v4, hs2 ++ ([h] ++ hs4), rfl, HD4.out.var, ?_, ?_, HD4.out.k⟩
    · have := HD4.out.own
      rw [List.append_assoc, List.append_assoc] at this
      exact this
    · rw [HL.out]
      exact HH2.out.app ((Heads.one HTT.out).app HH4.out)

set_option maxRecDepth 100000 in
set_option maxHeartbeats 4000000 in
theorem list_any (t : Tr) (h : TH) (w : World) (ht : InTree w h t) (hcn : countT t ≤ 1000) : Calls Tryd.prog 28 #[h.v] w (fun e w' => ∃ v hs, e = .returned v ∧ OwnT w' w.heap.size 27 v hs ∧ (checkT t = 0 → Heads w hs (listT t)) ∧ (checkT t ≠ 0 → hs = []) ∧ Below w.heap.size w w') := by
  have hmf : ∀ (fn : Fn) (first cap : Array Value) (w : World), (Instr.makeFunc fn first cap).run Tryd.prog w = .ok (.func fn first cap) w := fun _ _ _ _ => rfl
  unfold TH.v
  have hbox := Box.new w 27 h
  have HX := Lib.hid hbox
  have HT := Lib.hid ht
  obtain ⟨x0, x1, x2, x3, x4⟩ := hbox.cells
  clear hbox ht
  go_enter Tryd.func28, Tryd.ntmps28
  go_upto_region 1 with fail
  by_cases hc : checkT t = 0
  · have HCZ := Lib.hid hc
    clear hc
    go_upto_region 3 with (first
      | (go_at_call 38
         refine (check_any t h _ ?_).mono ?_
         · exact HT.out.lower ((Below.refl _ _).alloc (Nat.le_refl _) _)
         rintro _ w1 ⟨rfl, hb1⟩
         have HB1 : Hid (Below w.heap.size w w1) := Lib.hid (((Below.refl w.heap.size w).alloc (Nat.le_refl _) _).trans (hb1.mono (by simp)))
         have HX1 := Lib.hid (HX.out.below hb1 HX.out.lt)
         have hcv : codeV (checkT t) = .nilIface := by rw [HCZ.out]; rfl
         rw [hcv]
         clear hcv
         clear hb1 x0 x1 x2 x3 x4))
    have hb2 : Below w1.heap.size w1 (w1.alloc (.cells #[.slice none 0 0] 25)) := (Below.refl _ _).alloc (Nat.le_refl _) _
    have hv2 := Var1.new w1 25 (.slice none 0 0)
    have hx2 := HX1.out.below hb2 HX1.out.lt
    have hs2 : (w1.alloc (.cells #[.slice none 0 0] 25)).heap.size = w1.heap.size + 1 := by simp
    have hb3 : Below w1.heap.size w1 ((w1.alloc (.cells #[.slice none 0 0] 25)).alloc (.cells #[.nilFunc] 96)) := hb2.alloc (by rw [hs2]; omega) _
    have hba : Below (w1.alloc (.cells #[.slice none 0 0] 25)).heap.size (w1.alloc (.cells #[.slice none 0 0] 25)) ((w1.alloc (.cells #[.slice none 0 0] 25)).alloc (.cells #[.nilFunc] 96)) := (Below.refl _ _).alloc (Nat.le_refl _) _
    have hv3 := hv2.below hba hv2.lt
    have hx3 := hx2.below hba hx2.lt
    have hn3 := Var1.new (w1.alloc (.cells #[.slice none 0 0] 25)) 96 .nilFunc
    rw [hs2] at hn3
    have hsz := HB1.out.size
    clear hb2 hv2 hx2 hs2 hba
    go_upto_region 5 with fail
    generalize ((w1.alloc (.cells #[.slice none 0 0] 25)).alloc (.cells #[.nilFunc] 96)) = w2 at *
    have c0 := hn3.cell
    have c1 := hn3.frozen 0
    have hn4 := hn3.set (.func (.func 54) #[] #[.pointer (some ⟨(w1.heap.size + 1), 0, none⟩), .pointer (some ⟨w1.heap.size, 0, none⟩)])
    have hne : w.heap.size ≠ w1.heap.size + 1 := by have := HX1.out.lt; omega
    have hx4 : Box (w2.setCell ⟨w1.heap.size + 1, 0, none⟩ (.func (.func 54) #[] #[.pointer (some ⟨(w1.heap.size + 1), 0, none⟩), .pointer (some ⟨w1.heap.size, 0, none⟩)])) 27 w.heap.size h := (Below.heap_setCell w2 ⟨w1.heap.size + 1, 0, none⟩ _ w.heap.size hne).trans hx3
    have hv4 := hv3.far (p := ⟨w1.heap.size + 1, 0, none⟩) (by simp) (.func (.func 54) #[] #[.pointer (some ⟨(w1.heap.size + 1), 0, none⟩), .pointer (some ⟨w1.heap.size, 0, none⟩)])
    have hb4 : Below w1.heap.size w1 (w2.setCell ⟨w1.heap.size + 1, 0, none⟩ (.func (.func 54) #[] #[.pointer (some ⟨(w1.heap.size + 1), 0, none⟩), .pointer (some ⟨w1.heap.size, 0, none⟩)])) := hb3.setCell (by simp) _
    clear hn3 hx3 hv3 hb3 hne
    go_upto_region 6 with fail
    generalize (w2.setCell ⟨w1.heap.size + 1, 0, none⟩ (.func (.func 54) #[] #[.pointer (some ⟨(w1.heap.size + 1), 0, none⟩), .pointer (some ⟨w1.heap.size, 0, none⟩)])) = w3 at *
    obtain ⟨x0, x1, x2, x3, x4⟩ := hx4.cells
    have c2 := hn4.cell
    have HN := Lib.hid hn4
    have HV := Lib.hid hv4
    have HB4 : Hid (Below w.heap.size w w3) := Lib.hid (HB1.out.trans (hb4.mono hsz))
    have HSZ := Lib.hid hsz
    clear c0 c1 hx4 hb4 hn4 hsz hv4
    go_upto_region 7 with (first
      | (go_at_call 54
         refine (listC_any w t h _ (w1.heap.size + 1) w1.heap.size (.slice none 0 0) [] HT.out (check_zero HCZ.out).1 (by simp only [List.length_nil]; omega) HB4.out HSZ.out HN.out HV.out (OwnT.nil _ _ _)).mono ?_
         rintro _ w4 ⟨v4, hs4, rfl, hv4, ho4, hh4, hk4⟩
         have HB5 : Hid (Below w.heap.size w w4) := Lib.hid (hk4.below HB4.out HB4.out.size HSZ.out (fun k e => by cases e))
         have HO4 : Hid (OwnT w4 w.heap.size 27 v4 hs4) := Lib.hid ho4
         have HH4 := Lib.hid hh4
         have c4 := hv4.cell
         clear hv4 ho4 hh4 hk4))
    go_wp2_with fail
    go_ret
    exact ⟨v4, hs4, rfl, HO4.out, fun _ => HH4.out, fun q => absurd HCZ.out q, HB5.out⟩
  · have HCZ := Lib.hid hc
    clear hc
    go_wp2_with (first
      | (go_at_call 38
         refine (check_any t h _ ?_).mono ?_
         · exact HT.out.lower ((Below.refl _ _).alloc (Nat.le_refl _) _)
         rintro _ w1 ⟨rfl, hb1⟩
         have HB1 : Hid (Below w.heap.size w w1) := Lib.hid (((Below.refl w.heap.size w).alloc (Nat.le_refl _) _).trans (hb1.mono (by simp)))
         rw [codeV_pos HCZ.out]
         clear hb1 x0 x1 x2 x3 x4))
    go_ret
    exact ⟨_, [], rfl, OwnT.nil _ _ _, fun q => absurd q HCZ.out, fun _ => rfl, HB1.out⟩
end Go.Proofs.YtlbiefddcimdgaaDoor

/- The contracts of bytes.Equal, and of whether keys rise in a row of trees. -/
namespace Go.Proofs.YtlbiefddcimdgaaDoor
open Go.RowKit
set_option linter.unusedVariables false

/-- A row of trees, n of them. -/
structure RT (W : World) (base : Nat) (a : Option Addr) (n c : Nat) (hs : List TH) (ts : List Tr) : Prop where
  o : OwnT W base 27 (.slice a n c) hs
  hh : Heads W hs ts
  l : ts.length = n
section
variable {W W' : World} {base : Nat} {a : Option Addr} {n c : Nat} {hs : List TH} {ts : List Tr}
theorem RT.below (x : RT W base a n c hs ts) (hb : Below W.heap.size W W') : RT W' base a n c hs ts := ⟨x.o.keep hb, x.hh.lower hb, x.l⟩
theorem RT.drew (x : RT W base a n c hs ts) : RT W.drew base a n c hs ts := x.below (Below.refl _ _).drew
theorem RT.hl (x : RT W base a n c hs ts) : hs.length = n := x.hh.1.trans x.l
theorem RT.block (x : RT W base a n c hs ts) {i : Nat} (hi : i < n) : ∃ g, a = some ⟨g, 0, none⟩ := by
  obtain ⟨g, e, -⟩ := x.o.at x.hl i (by rw [x.hl]; exact hi)
  exact ⟨g, e⟩
theorem RT.cells {g : Nat} (x : RT W base (some ⟨g, 0, none⟩) n c hs ts) (i : Nat) (hi : i < hs.length) : W.cell? ⟨g, i * 5, none⟩ = some (.int .i64 (hs[i]).k) ∧ W.cell? ⟨g, i * 5 + 1, none⟩ = some (.slice (hs[i]).ka (hs[i]).kn (hs[i]).kc) ∧ W.cell? ⟨g, i * 5 + 2, none⟩ = some (.slice (hs[i]).va (hs[i]).vn (hs[i]).vc) ∧ W.cell? ⟨g, i * 5 + 3, none⟩ = some (.slice (hs[i]).da (hs[i]).dn (hs[i]).dc) ∧ W.cell? ⟨g, i * 5 + 4, none⟩ = some (.slice (hs[i]).ta (hs[i]).tn (hs[i]).tc) := by
  obtain ⟨g', e, h⟩ := x.o.at x.hl i hi
  injection e with e
  injection e with e
  subst e
  exact h
theorem RT.tree (x : RT W base a n c hs ts) (i : Nat) (h1 : i < hs.length) (h2 : i < ts.length) : InTree W hs[i] ts[i] := x.hh.2 i h1 h2
theorem RT.key (x : RT W base a n c hs ts) (i : Nat) (h1 : i < hs.length) (h2 : i < ts.length) : InBytes W (hs[i]).ka (hs[i]).kn (hs[i]).kc (ts[i]).key := by
  obtain ⟨H, hp⟩ := (x.tree i h1 h2).parts
  exact hp.key
theorem RT.kind (x : RT W base a n c hs ts) (i : Nat) (h1 : i < hs.length) (h2 : i < ts.length) : (hs[i]).k = (ts[i]).k := by
  obtain ⟨H, hp⟩ := (x.tree i h1 h2).parts
  exact hp.hk
end
theorem condN_succ {ts : List Tr} {i j : Nat} (hj : i = j + 1) (hi : i < ts.length) : condN ts i = ltL (ts[j]'(by omega)).key (ts[i]).key := by
  subst hj
  unfold condN
  simp only [List.getD, Nat.add_sub_cancel, List.getElem?_eq_getElem hi, List.getElem?_eq_getElem (show j < ts.length by omega), Option.getD_some]
  simp

set_option maxRecDepth 100000 in
set_option maxHeartbeats 4000000 in
theorem equal_any (xs ys : List Int) (a b : Option Addr) (n m c d : Nat) (w : World) (hx : InBytes w a n c xs) (hy : InBytes w b m d ys) : Calls Tryd.prog 27 #[.slice a n c, .slice b m d] w (fun e w' => e = .returned (.bool (xs == ys)) ∧ w' = w) := by
  have cvx := conv_key hx
  have cvy := conv_key hy
  have hse := str_eq hx.bytes hy.bytes
  clear hx hy
  generalize (xs == ys) = bb at *
  go_enter Tryd.func27, Tryd.ntmps27
  go_wp2_with fail
  go_ret
  exact ⟨rfl, rfl⟩

set_option maxRecDepth 100000 in
set_option maxHeartbeats 4000000 in
theorem asc8_any (ts : List Tr) (hs : List TH) (base : Nat) (a : Option Addr) (n c : Nat) (w : World) (hr : RT w base a n c hs ts) (hn : n ≤ 500) : Calls Tryd.prog 29 #[.slice a n c] w (Says w (.bool ((List.range n).all (condN ts)))) := by
  have HR := Lib.hid hr
  clear hr
  go_enter Tryd.func29, Tryd.ntmps29
  go_wp2_with fail
  go_loopw [3] (fun s3 wx => ∃ i : Nat, 1 ≤ i ∧ (i ≤ n ∨ i = 1) ∧ s3 = .int .i64 i ∧ RT wx base a n c hs ts ∧ Below w.heap.size w wx ∧ (List.range i).all (condN ts) = true) (fun s3 _ => n - (intOf s3).toNat)
  case atStart => exact ⟨1, by omega, .inr rfl, rfl, HR.out, Below.refl _ _, rfl⟩
  case round =>
    clear HR
    obtain ⟨i, hi1, hi2, rfl, hr, hbw, hall⟩ := hrel
    have HALL := Lib.hid hall
    by_cases hlt : i < n
    · obtain ⟨j, hj⟩ : ∃ j, i = j + 1 := ⟨i - 1, by omega⟩
      have q1 : (i : Int) < (n : Int) := by omega
      have hjj : (i : Int) - 1 = (j : Int) := by omega
      have hjn : (j : Int) < (n : Int) := by omega
      have hwj : IntKind.i64.wrap (j : Int) = (j : Int) := by rw [IntKind.wrap_i64]; omega
      have hhl := hr.hl
      have htl := hr.l
      have hik : i < hs.length := by omega
      have hjk : j < hs.length := by omega
      have hix : i < ts.length := by omega
      have hjx : j < ts.length := by omega
      obtain ⟨g, hga⟩ := hr.block hlt
      subst hga
      have hrd := hr.drew
      have HRD := Lib.hid hrd
      have HBD := Lib.hid hbw.drew
      have HKJ := Lib.hid (hrd.key j hjk hjx)
      have HKI := Lib.hid (hrd.key i hik hix)
      have HS4 : Hid ((fun W => W.cell? ⟨g, j * 5 + 1, none⟩ = some (.slice (hs[j]).ka (hs[j]).kn (hs[j]).kc) ∧ W.cell? ⟨g, i * 5 + 1, none⟩ = some (.slice (hs[i]).ka (hs[i]).kn (hs[i]).kc)) wr.drew) := Lib.hid ⟨(hrd.cells j hjk).2.1, (hrd.cells i hik).2.1⟩
      have HCD : Hid (condN ts i = ltL (ts[j]).key (ts[i]).key) := Lib.hid (condN_succ hj hix)
      clear hr hrd hbw hall hj hhl htl
      rcases ord_is (ts[j]).key (ts[i]).key with ⟨c0, o0⟩ | ⟨c0, o0⟩ | ⟨c0, o0⟩
      · have HO := Lib.hid o0
        have HC := Lib.hid c0
        clear o0 c0
        go_upto_region 4 with fail
        refine wp_region_held_drew (S := (fun W => W.cell? ⟨g, j * 5 + 1, none⟩ = some (.slice (hs[j]).ka (hs[j]).kn (hs[j]).kc) ∧ W.cell? ⟨g, i * 5 + 1, none⟩ = some (.slice (hs[i]).ka (hs[i]).kn (hs[i]).kc))) (by kernel_rfl) HS4.out (fun hHeld => ?_)
        refine take_w (i := 0) (oi := ?oZ1) (v := ?vZ1) ?hiZ1 (by kernel_rfl) (by kernel_rfl) (by kernel_rfl) ?hQZ1 ?hwZ1 ?hyZ1 (by assumption) ?restZ1
        case hiZ1 => (simp only [List.getElem?_toArray, List.getElem?_cons_zero] <;> rfl)
        case hQZ1 => exact (fun _ _ _ h => h)
        case hwZ1 => rfl
        case hyZ1 => (intro w hSw; (try dsimp only at hSw); go_simp; try with_reducible rfl)
        (try simp only [Act.put, List.setIfInBounds_toArray, List.set_cons_zero, List.set_cons_succ])
        refine take_w (i := 1) (oi := ?oZ2) (v := ?vZ2) ?hiZ2 (by kernel_rfl) (by kernel_rfl) (by kernel_rfl) ?hQZ2 ?hwZ2 ?hyZ2 (by assumption) ?restZ2
        case hiZ2 => (simp only [List.getElem?_toArray, List.getElem?_cons_succ, List.getElem?_cons_zero] <;> rfl)
        case hQZ2 => exact (fun _ _ _ h => h)
        case hwZ2 => rfl
        case hyZ2 => (intro w hSw; (try dsimp only at hSw); go_simp; try with_reducible rfl)
        (try simp only [Act.put, List.setIfInBounds_toArray, List.set_cons_zero, List.set_cons_succ])
        refine take_w (i := 2) (oi := ?oZ3) (v := ?vZ3) ?hiZ3 (by kernel_rfl) (by kernel_rfl) (by kernel_rfl) ?hQZ3 ?hwZ3 ?hyZ3 (by assumption) ?restZ3
        case hiZ3 => (simp only [List.getElem?_toArray, List.getElem?_cons_succ, List.getElem?_cons_zero] <;> rfl)
        case hQZ3 => exact (fun _ _ _ h => h)
        case hwZ3 => rfl
        case hyZ3 => (intro w hSw; (try dsimp only at hSw); go_simp; try with_reducible rfl)
        (try simp only [Act.put, List.setIfInBounds_toArray, List.set_cons_zero, List.set_cons_succ])
        refine take_w (i := 3) (oi := ?oZ4) (v := ?vZ4) ?hiZ4 (by kernel_rfl) (by kernel_rfl) (by kernel_rfl) ?hQZ4 ?hwZ4 ?hyZ4 (by assumption) ?restZ4
        case hiZ4 => (simp only [List.getElem?_toArray, List.getElem?_cons_succ, List.getElem?_cons_zero] <;> rfl)
        case hQZ4 => exact (fun _ _ _ h => h)
        case hwZ4 => rfl
        case hyZ4 => (intro w hSw; (try dsimp only at hSw); go_simp; try with_reducible rfl)
        (try simp only [Act.put, List.setIfInBounds_toArray, List.set_cons_zero, List.set_cons_succ])
        refine take_w (i := 4) (oi := ?oZ5) (v := ?vZ5) ?hiZ5 (by kernel_rfl) (by kernel_rfl) (by kernel_rfl) ?hQZ5 ?hwZ5 ?hyZ5 (by assumption) ?restZ5
        case hiZ5 => (simp only [List.getElem?_toArray, List.getElem?_cons_succ, List.getElem?_cons_zero] <;> rfl)
        case hQZ5 => exact (fun _ _ _ h => h)
        case hwZ5 => rfl
        case hyZ5 => (intro w hSw; (try dsimp only at hSw); go_simp; try with_reducible rfl)
        (try simp only [Act.put, List.setIfInBounds_toArray, List.set_cons_zero, List.set_cons_succ])
        refine take_w (i := 5) (oi := ?oZ6) (v := ?vZ6) ?hiZ6 (by kernel_rfl) (by kernel_rfl) (by kernel_rfl) ?hQZ6 ?hwZ6 ?hyZ6 (by assumption) ?restZ6
        case hiZ6 => (simp only [List.getElem?_toArray, List.getElem?_cons_succ, List.getElem?_cons_zero] <;> rfl)
        case hQZ6 => exact (fun _ _ _ h => h)
        case hwZ6 => rfl
        case hyZ6 => (intro w hSw; (try dsimp only at hSw); go_simp; try with_reducible rfl)
        (try simp only [Act.put, List.setIfInBounds_toArray, List.set_cons_zero, List.set_cons_succ])
        refine take_w (i := 6) (oi := ?oZ7) (v := ?vZ7) ?hiZ7 (by kernel_rfl) (by kernel_rfl) (by kernel_rfl) ?hQZ7 ?hwZ7 ?hyZ7 (by assumption) ?restZ7
        case hiZ7 => (simp only [List.getElem?_toArray, List.getElem?_cons_succ, List.getElem?_cons_zero] <;> rfl)
        case hQZ7 => exact (fun _ _ _ h => h)
        case hwZ7 => rfl
        case hyZ7 => (intro w hSw; (try dsimp only at hSw); go_simp; try with_reducible rfl)
        (try simp only [Act.put, List.setIfInBounds_toArray, List.set_cons_zero, List.set_cons_succ])
        refine take_w (i := 7) (oi := ?oZ8) (v := ?vZ8) ?hiZ8 (by kernel_rfl) (by kernel_rfl) (by kernel_rfl) ?hQZ8 ?hwZ8 ?hyZ8 (by assumption) ?restZ8
        case hiZ8 => (simp only [List.getElem?_toArray, List.getElem?_cons_succ, List.getElem?_cons_zero] <;> rfl)
        case hQZ8 => exact (fun _ _ _ h => h)
        case hwZ8 => rfl
        case hyZ8 => (intro w hSw; (try dsimp only at hSw); go_simp; try with_reducible rfl)
        (try simp only [Act.put, List.setIfInBounds_toArray, List.set_cons_zero, List.set_cons_succ])
        refine take_w (i := 8) (oi := ?oZ9) (v := ?vZ9) ?hiZ9 (by kernel_rfl) (by kernel_rfl) (by kernel_rfl) ?hQZ9 ?hwZ9 ?hyZ9 (by assumption) ?restZ9
        case hiZ9 => (simp only [List.getElem?_toArray, List.getElem?_cons_succ, List.getElem?_cons_zero] <;> rfl)
        case hQZ9 => exact (fun _ _ _ h => h)
        case hwZ9 => rfl
        case hyZ9 => (intro w hSw; (try dsimp only at hSw); go_simp; try with_reducible rfl)
        (try simp only [Act.put, List.setIfInBounds_toArray, List.set_cons_zero, List.set_cons_succ])
        refine take_w (i := 9) (oi := ?oZ10) (v := ?vZ10) ?hiZ10 (by kernel_rfl) (by kernel_rfl) (by kernel_rfl) ?hQZ10 ?hwZ10 ?hyZ10 (by assumption) ?restZ10
        case hiZ10 => (simp only [List.getElem?_toArray, List.getElem?_cons_succ, List.getElem?_cons_zero] <;> rfl)
        case hQZ10 => exact (fun _ _ _ h => h)
        case hwZ10 => rfl
        case hyZ10 => (intro w hSw; (try dsimp only at hSw); go_simp; try with_reducible rfl)
        (try simp only [Act.put, List.setIfInBounds_toArray, List.set_cons_zero, List.set_cons_succ])
        refine take_w (i := 10) (oi := ?oZ11) (v := ?vZ11) ?hiZ11 (by kernel_rfl) (by kernel_rfl) (by kernel_rfl) ?hQZ11 ?hwZ11 ?hyZ11 (by assumption) ?restZ11
        case hiZ11 => (simp only [List.getElem?_toArray, List.getElem?_cons_succ, List.getElem?_cons_zero] <;> rfl)
        case hQZ11 => exact (fun _ _ _ h => h)
        case hwZ11 => rfl
        case hyZ11 => (intro w hSw; (try dsimp only at hSw); go_simp; try with_reducible rfl)
        (try simp only [Act.put, List.setIfInBounds_toArray, List.set_cons_zero, List.set_cons_succ])
        refine wpAnyH_ready (rs := [11]) (by kernel_rfl) (by simp) ?_
        refine AllReadyH.cons (o := ?oZ12) ?hiZ12 (fun K hK => ?stZ12) AllReadyH.nil
        case hiZ12 => (simp only [List.getElem?_toArray, List.getElem?_cons_succ, List.getElem?_cons_zero] <;> rfl)
        go_simp
        go_at_call 52
        refine (compare_any (ts[j]).key (ts[i]).key _ _ _ _ _ _ _ HKJ.out HKI.out).mono ?_
        rintro _ w6 ⟨rfl, hw6⟩
        rw [hw6]
        clear hw6
        rw [HO.out]
        go_simp
        refine hK.out _ _ ?_ (fun hHeld => ?_)
        · (exact HS4.out)
        clear hK K
        (try simp only [Act.put, List.setIfInBounds_toArray, List.set_cons_zero, List.set_cons_succ])
        refine take_w (i := 12) (oi := ?oZ13) (v := ?vZ13) ?hiZ13 (by kernel_rfl) (by kernel_rfl) (by kernel_rfl) ?hQZ13 ?hwZ13 ?hyZ13 (by assumption) ?restZ13
        case hiZ13 => (simp only [List.getElem?_toArray, List.getElem?_cons_succ, List.getElem?_cons_zero] <;> rfl)
        case hQZ13 => exact (fun _ _ _ h => h)
        case hwZ13 => rfl
        case hyZ13 => (intro w hSw; (try dsimp only at hSw); go_simp; try with_reducible rfl)
        (try simp only [Act.put, List.setIfInBounds_toArray, List.set_cons_zero, List.set_cons_succ])
        refine wpAnyH_done (by kernel_rfl) ?_ _
        clear hHeld
        go_wp2_with fail
        exact ⟨⟨i + 1, by omega, .inl (by omega), by go_num, HRD.out, HBD.out, by rw [List.range_succ, List.all_append, HALL.out]; simp [HCD.out, HC.out]⟩, by simp [intOf]; omega⟩
      · have HO := Lib.hid o0
        have HC := Lib.hid c0
        clear o0 c0
        go_upto_region 4 with fail
        refine wp_region_held_drew (S := (fun W => W.cell? ⟨g, j * 5 + 1, none⟩ = some (.slice (hs[j]).ka (hs[j]).kn (hs[j]).kc) ∧ W.cell? ⟨g, i * 5 + 1, none⟩ = some (.slice (hs[i]).ka (hs[i]).kn (hs[i]).kc))) (by kernel_rfl) HS4.out (fun hHeld => ?_)
        refine take_w (i := 0) (oi := ?oZ14) (v := ?vZ14) ?hiZ14 (by kernel_rfl) (by kernel_rfl) (by kernel_rfl) ?hQZ14 ?hwZ14 ?hyZ14 (by assumption) ?restZ14
        case hiZ14 => (simp only [List.getElem?_toArray, List.getElem?_cons_zero] <;> rfl)
        case hQZ14 => exact (fun _ _ _ h => h)
        case hwZ14 => rfl
        case hyZ14 => (intro w hSw; (try dsimp only at hSw); go_simp; try with_reducible rfl)
        (try simp only [Act.put, List.setIfInBounds_toArray, List.set_cons_zero, List.set_cons_succ])
        refine take_w (i := 1) (oi := ?oZ15) (v := ?vZ15) ?hiZ15 (by kernel_rfl) (by kernel_rfl) (by kernel_rfl) ?hQZ15 ?hwZ15 ?hyZ15 (by assumption) ?restZ15
        case hiZ15 => (simp only [List.getElem?_toArray, List.getElem?_cons_succ, List.getElem?_cons_zero] <;> rfl)
        case hQZ15 => exact (fun _ _ _ h => h)
        case hwZ15 => rfl
        case hyZ15 => (intro w hSw; (try dsimp only at hSw); go_simp; try with_reducible rfl)
        (try simp only [Act.put, List.setIfInBounds_toArray, List.set_cons_zero, List.set_cons_succ])
        refine take_w (i := 2) (oi := ?oZ16) (v := ?vZ16) ?hiZ16 (by kernel_rfl) (by kernel_rfl) (by kernel_rfl) ?hQZ16 ?hwZ16 ?hyZ16 (by assumption) ?restZ16
        case hiZ16 => (simp only [List.getElem?_toArray, List.getElem?_cons_succ, List.getElem?_cons_zero] <;> rfl)
        case hQZ16 => exact (fun _ _ _ h => h)
        case hwZ16 => rfl
        case hyZ16 => (intro w hSw; (try dsimp only at hSw); go_simp; try with_reducible rfl)
        (try simp only [Act.put, List.setIfInBounds_toArray, List.set_cons_zero, List.set_cons_succ])
        refine take_w (i := 3) (oi := ?oZ17) (v := ?vZ17) ?hiZ17 (by kernel_rfl) (by kernel_rfl) (by kernel_rfl) ?hQZ17 ?hwZ17 ?hyZ17 (by assumption) ?restZ17
        case hiZ17 => (simp only [List.getElem?_toArray, List.getElem?_cons_succ, List.getElem?_cons_zero] <;> rfl)
        case hQZ17 => exact (fun _ _ _ h => h)
        case hwZ17 => rfl
        case hyZ17 => (intro w hSw; (try dsimp only at hSw); go_simp; try with_reducible rfl)
        (try simp only [Act.put, List.setIfInBounds_toArray, List.set_cons_zero, List.set_cons_succ])
        refine take_w (i := 4) (oi := ?oZ18) (v := ?vZ18) ?hiZ18 (by kernel_rfl) (by kernel_rfl) (by kernel_rfl) ?hQZ18 ?hwZ18 ?hyZ18 (by assumption) ?restZ18
        case hiZ18 => (simp only [List.getElem?_toArray, List.getElem?_cons_succ, List.getElem?_cons_zero] <;> rfl)
        case hQZ18 => exact (fun _ _ _ h => h)
        case hwZ18 => rfl
        case hyZ18 => (intro w hSw; (try dsimp only at hSw); go_simp; try with_reducible rfl)
        (try simp only [Act.put, List.setIfInBounds_toArray, List.set_cons_zero, List.set_cons_succ])
        refine take_w (i := 5) (oi := ?oZ19) (v := ?vZ19) ?hiZ19 (by kernel_rfl) (by kernel_rfl) (by kernel_rfl) ?hQZ19 ?hwZ19 ?hyZ19 (by assumption) ?restZ19
        case hiZ19 => (simp only [List.getElem?_toArray, List.getElem?_cons_succ, List.getElem?_cons_zero] <;> rfl)
        case hQZ19 => exact (fun _ _ _ h => h)
        case hwZ19 => rfl
        case hyZ19 => (intro w hSw; (try dsimp only at hSw); go_simp; try with_reducible rfl)
        (try simp only [Act.put, List.setIfInBounds_toArray, List.set_cons_zero, List.set_cons_succ])
        refine take_w (i := 6) (oi := ?oZ20) (v := ?vZ20) ?hiZ20 (by kernel_rfl) (by kernel_rfl) (by kernel_rfl) ?hQZ20 ?hwZ20 ?hyZ20 (by assumption) ?restZ20
        case hiZ20 => (simp only [List.getElem?_toArray, List.getElem?_cons_succ, List.getElem?_cons_zero] <;> rfl)
        case hQZ20 => exact (fun _ _ _ h => h)
        case hwZ20 => rfl
        case hyZ20 => (intro w hSw; (try dsimp only at hSw); go_simp; try with_reducible rfl)
        (try simp only [Act.put, List.setIfInBounds_toArray, List.set_cons_zero, List.set_cons_succ])
        refine take_w (i := 7) (oi := ?oZ21) (v := ?vZ21) ?hiZ21 (by kernel_rfl) (by kernel_rfl) (by kernel_rfl) ?hQZ21 ?hwZ21 ?hyZ21 (by assumption) ?restZ21
        case hiZ21 => (simp only [List.getElem?_toArray, List.getElem?_cons_succ, List.getElem?_cons_zero] <;> rfl)
        case hQZ21 => exact (fun _ _ _ h => h)
        case hwZ21 => rfl
        case hyZ21 => (intro w hSw; (try dsimp only at hSw); go_simp; try with_reducible rfl)
        (try simp only [Act.put, List.setIfInBounds_toArray, List.set_cons_zero, List.set_cons_succ])
        refine take_w (i := 8) (oi := ?oZ22) (v := ?vZ22) ?hiZ22 (by kernel_rfl) (by kernel_rfl) (by kernel_rfl) ?hQZ22 ?hwZ22 ?hyZ22 (by assumption) ?restZ22
        case hiZ22 => (simp only [List.getElem?_toArray, List.getElem?_cons_succ, List.getElem?_cons_zero] <;> rfl)
        case hQZ22 => exact (fun _ _ _ h => h)
        case hwZ22 => rfl
        case hyZ22 => (intro w hSw; (try dsimp only at hSw); go_simp; try with_reducible rfl)
        (try simp only [Act.put, List.setIfInBounds_toArray, List.set_cons_zero, List.set_cons_succ])
        refine take_w (i := 9) (oi := ?oZ23) (v := ?vZ23) ?hiZ23 (by kernel_rfl) (by kernel_rfl) (by kernel_rfl) ?hQZ23 ?hwZ23 ?hyZ23 (by assumption) ?restZ23
        case hiZ23 => (simp only [List.getElem?_toArray, List.getElem?_cons_succ, List.getElem?_cons_zero] <;> rfl)
        case hQZ23 => exact (fun _ _ _ h => h)
        case hwZ23 => rfl
        case hyZ23 => (intro w hSw; (try dsimp only at hSw); go_simp; try with_reducible rfl)
        (try simp only [Act.put, List.setIfInBounds_toArray, List.set_cons_zero, List.set_cons_succ])
        refine take_w (i := 10) (oi := ?oZ24) (v := ?vZ24) ?hiZ24 (by kernel_rfl) (by kernel_rfl) (by kernel_rfl) ?hQZ24 ?hwZ24 ?hyZ24 (by assumption) ?restZ24
        case hiZ24 => (simp only [List.getElem?_toArray, List.getElem?_cons_succ, List.getElem?_cons_zero] <;> rfl)
        case hQZ24 => exact (fun _ _ _ h => h)
        case hwZ24 => rfl
        case hyZ24 => (intro w hSw; (try dsimp only at hSw); go_simp; try with_reducible rfl)
        (try simp only [Act.put, List.setIfInBounds_toArray, List.set_cons_zero, List.set_cons_succ])
        refine wpAnyH_ready (rs := [11]) (by kernel_rfl) (by simp) ?_
        refine AllReadyH.cons (o := ?oZ25) ?hiZ25 (fun K hK => ?stZ25) AllReadyH.nil
        case hiZ25 => (simp only [List.getElem?_toArray, List.getElem?_cons_succ, List.getElem?_cons_zero] <;> rfl)
        go_simp
        go_at_call 52
        refine (compare_any (ts[j]).key (ts[i]).key _ _ _ _ _ _ _ HKJ.out HKI.out).mono ?_
        rintro _ w6 ⟨rfl, hw6⟩
        rw [hw6]
        clear hw6
        rw [HO.out]
        go_simp
        refine hK.out _ _ ?_ (fun hHeld => ?_)
        · (exact HS4.out)
        clear hK K
        (try simp only [Act.put, List.setIfInBounds_toArray, List.set_cons_zero, List.set_cons_succ])
        refine take_w (i := 12) (oi := ?oZ26) (v := ?vZ26) ?hiZ26 (by kernel_rfl) (by kernel_rfl) (by kernel_rfl) ?hQZ26 ?hwZ26 ?hyZ26 (by assumption) ?restZ26
        case hiZ26 => (simp only [List.getElem?_toArray, List.getElem?_cons_succ, List.getElem?_cons_zero] <;> rfl)
        case hQZ26 => exact (fun _ _ _ h => h)
        case hwZ26 => rfl
        case hyZ26 => (intro w hSw; (try dsimp only at hSw); go_simp; try with_reducible rfl)
        (try simp only [Act.put, List.setIfInBounds_toArray, List.set_cons_zero, List.set_cons_succ])
        refine wpAnyH_done (by kernel_rfl) ?_ _
        clear hHeld
        go_wp2_with fail
        go_ret
        have e : (List.range n).all (condN ts) = false := by
          cases q : (List.range n).all (condN ts) with
          | false => rfl
          | true =>
            have := (List.all_eq_true.1 q) i (List.mem_range.2 hlt)
            rw [HCD.out, HC.out] at this
            cases this
        exact ⟨by rw [e]; rfl, HBD.out⟩
      · have HO := Lib.hid o0
        have HC := Lib.hid c0
        clear o0 c0
        go_upto_region 4 with fail
        refine wp_region_held_drew (S := (fun W => W.cell? ⟨g, j * 5 + 1, none⟩ = some (.slice (hs[j]).ka (hs[j]).kn (hs[j]).kc) ∧ W.cell? ⟨g, i * 5 + 1, none⟩ = some (.slice (hs[i]).ka (hs[i]).kn (hs[i]).kc))) (by kernel_rfl) HS4.out (fun hHeld => ?_)
        refine take_w (i := 0) (oi := ?oZ27) (v := ?vZ27) ?hiZ27 (by kernel_rfl) (by kernel_rfl) (by kernel_rfl) ?hQZ27 ?hwZ27 ?hyZ27 (by assumption) ?restZ27
        case hiZ27 => (simp only [List.getElem?_toArray, List.getElem?_cons_zero] <;> rfl)
        case hQZ27 => exact (fun _ _ _ h => h)
        case hwZ27 => rfl
        case hyZ27 => (intro w hSw; (try dsimp only at hSw); go_simp; try with_reducible rfl)
        (try simp only [Act.put, List.setIfInBounds_toArray, List.set_cons_zero, List.set_cons_succ])
        refine take_w (i := 1) (oi := ?oZ28) (v := ?vZ28) ?hiZ28 (by kernel_rfl) (by kernel_rfl) (by kernel_rfl) ?hQZ28 ?hwZ28 ?hyZ28 (by assumption) ?restZ28
        case hiZ28 => (simp only [List.getElem?_toArray, List.getElem?_cons_succ, List.getElem?_cons_zero] <;> rfl)
        case hQZ28 => exact (fun _ _ _ h => h)
        case hwZ28 => rfl
        case hyZ28 => (intro w hSw; (try dsimp only at hSw); go_simp; try with_reducible rfl)
        (try simp only [Act.put, List.setIfInBounds_toArray, List.set_cons_zero, List.set_cons_succ])
        refine take_w (i := 2) (oi := ?oZ29) (v := ?vZ29) ?hiZ29 (by kernel_rfl) (by kernel_rfl) (by kernel_rfl) ?hQZ29 ?hwZ29 ?hyZ29 (by assumption) ?restZ29
        case hiZ29 => (simp only [List.getElem?_toArray, List.getElem?_cons_succ, List.getElem?_cons_zero] <;> rfl)
        case hQZ29 => exact (fun _ _ _ h => h)
        case hwZ29 => rfl
        case hyZ29 => (intro w hSw; (try dsimp only at hSw); go_simp; try with_reducible rfl)
        (try simp only [Act.put, List.setIfInBounds_toArray, List.set_cons_zero, List.set_cons_succ])
        refine take_w (i := 3) (oi := ?oZ30) (v := ?vZ30) ?hiZ30 (by kernel_rfl) (by kernel_rfl) (by kernel_rfl) ?hQZ30 ?hwZ30 ?hyZ30 (by assumption) ?restZ30
        case hiZ30 => (simp only [List.getElem?_toArray, List.getElem?_cons_succ, List.getElem?_cons_zero] <;> rfl)
        case hQZ30 => exact (fun _ _ _ h => h)
        case hwZ30 => rfl
        case hyZ30 => (intro w hSw; (try dsimp only at hSw); go_simp; try with_reducible rfl)
        (try simp only [Act.put, List.setIfInBounds_toArray, List.set_cons_zero, List.set_cons_succ])
        refine take_w (i := 4) (oi := ?oZ31) (v := ?vZ31) ?hiZ31 (by kernel_rfl) (by kernel_rfl) (by kernel_rfl) ?hQZ31 ?hwZ31 ?hyZ31 (by assumption) ?restZ31
        case hiZ31 => (simp only [List.getElem?_toArray, List.getElem?_cons_succ, List.getElem?_cons_zero] <;> rfl)
        case hQZ31 => exact (fun _ _ _ h => h)
        case hwZ31 => rfl
        case hyZ31 => (intro w hSw; (try dsimp only at hSw); go_simp; try with_reducible rfl)
        (try simp only [Act.put, List.setIfInBounds_toArray, List.set_cons_zero, List.set_cons_succ])
        refine take_w (i := 5) (oi := ?oZ32) (v := ?vZ32) ?hiZ32 (by kernel_rfl) (by kernel_rfl) (by kernel_rfl) ?hQZ32 ?hwZ32 ?hyZ32 (by assumption) ?restZ32
        case hiZ32 => (simp only [List.getElem?_toArray, List.getElem?_cons_succ, List.getElem?_cons_zero] <;> rfl)
        case hQZ32 => exact (fun _ _ _ h => h)
        case hwZ32 => rfl
        case hyZ32 => (intro w hSw; (try dsimp only at hSw); go_simp; try with_reducible rfl)
        (try simp only [Act.put, List.setIfInBounds_toArray, List.set_cons_zero, List.set_cons_succ])
        refine take_w (i := 6) (oi := ?oZ33) (v := ?vZ33) ?hiZ33 (by kernel_rfl) (by kernel_rfl) (by kernel_rfl) ?hQZ33 ?hwZ33 ?hyZ33 (by assumption) ?restZ33
        case hiZ33 => (simp only [List.getElem?_toArray, List.getElem?_cons_succ, List.getElem?_cons_zero] <;> rfl)
        case hQZ33 => exact (fun _ _ _ h => h)
        case hwZ33 => rfl
        case hyZ33 => (intro w hSw; (try dsimp only at hSw); go_simp; try with_reducible rfl)
        (try simp only [Act.put, List.setIfInBounds_toArray, List.set_cons_zero, List.set_cons_succ])
        refine take_w (i := 7) (oi := ?oZ34) (v := ?vZ34) ?hiZ34 (by kernel_rfl) (by kernel_rfl) (by kernel_rfl) ?hQZ34 ?hwZ34 ?hyZ34 (by assumption) ?restZ34
        case hiZ34 => (simp only [List.getElem?_toArray, List.getElem?_cons_succ, List.getElem?_cons_zero] <;> rfl)
        case hQZ34 => exact (fun _ _ _ h => h)
        case hwZ34 => rfl
        case hyZ34 => (intro w hSw; (try dsimp only at hSw); go_simp; try with_reducible rfl)
        (try simp only [Act.put, List.setIfInBounds_toArray, List.set_cons_zero, List.set_cons_succ])
        refine take_w (i := 8) (oi := ?oZ35) (v := ?vZ35) ?hiZ35 (by kernel_rfl) (by kernel_rfl) (by kernel_rfl) ?hQZ35 ?hwZ35 ?hyZ35 (by assumption) ?restZ35
        case hiZ35 => (simp only [List.getElem?_toArray, List.getElem?_cons_succ, List.getElem?_cons_zero] <;> rfl)
        case hQZ35 => exact (fun _ _ _ h => h)
        case hwZ35 => rfl
        case hyZ35 => (intro w hSw; (try dsimp only at hSw); go_simp; try with_reducible rfl)
        (try simp only [Act.put, List.setIfInBounds_toArray, List.set_cons_zero, List.set_cons_succ])
        refine take_w (i := 9) (oi := ?oZ36) (v := ?vZ36) ?hiZ36 (by kernel_rfl) (by kernel_rfl) (by kernel_rfl) ?hQZ36 ?hwZ36 ?hyZ36 (by assumption) ?restZ36
        case hiZ36 => (simp only [List.getElem?_toArray, List.getElem?_cons_succ, List.getElem?_cons_zero] <;> rfl)
        case hQZ36 => exact (fun _ _ _ h => h)
        case hwZ36 => rfl
        case hyZ36 => (intro w hSw; (try dsimp only at hSw); go_simp; try with_reducible rfl)
        (try simp only [Act.put, List.setIfInBounds_toArray, List.set_cons_zero, List.set_cons_succ])
        refine take_w (i := 10) (oi := ?oZ37) (v := ?vZ37) ?hiZ37 (by kernel_rfl) (by kernel_rfl) (by kernel_rfl) ?hQZ37 ?hwZ37 ?hyZ37 (by assumption) ?restZ37
        case hiZ37 => (simp only [List.getElem?_toArray, List.getElem?_cons_succ, List.getElem?_cons_zero] <;> rfl)
        case hQZ37 => exact (fun _ _ _ h => h)
        case hwZ37 => rfl
        case hyZ37 => (intro w hSw; (try dsimp only at hSw); go_simp; try with_reducible rfl)
        (try simp only [Act.put, List.setIfInBounds_toArray, List.set_cons_zero, List.set_cons_succ])
        refine wpAnyH_ready (rs := [11]) (by kernel_rfl) (by simp) ?_
        refine AllReadyH.cons (o := ?oZ38) ?hiZ38 (fun K hK => ?stZ38) AllReadyH.nil
        case hiZ38 => (simp only [List.getElem?_toArray, List.getElem?_cons_succ, List.getElem?_cons_zero] <;> rfl)
        go_simp
        go_at_call 52
        refine (compare_any (ts[j]).key (ts[i]).key _ _ _ _ _ _ _ HKJ.out HKI.out).mono ?_
        rintro _ w6 ⟨rfl, hw6⟩
        rw [hw6]
        clear hw6
        rw [HO.out]
        go_simp
        refine hK.out _ _ ?_ (fun hHeld => ?_)
        · (exact HS4.out)
        clear hK K
        (try simp only [Act.put, List.setIfInBounds_toArray, List.set_cons_zero, List.set_cons_succ])
        refine take_w (i := 12) (oi := ?oZ39) (v := ?vZ39) ?hiZ39 (by kernel_rfl) (by kernel_rfl) (by kernel_rfl) ?hQZ39 ?hwZ39 ?hyZ39 (by assumption) ?restZ39
        case hiZ39 => (simp only [List.getElem?_toArray, List.getElem?_cons_succ, List.getElem?_cons_zero] <;> rfl)
        case hQZ39 => exact (fun _ _ _ h => h)
        case hwZ39 => rfl
        case hyZ39 => (intro w hSw; (try dsimp only at hSw); go_simp; try with_reducible rfl)
        (try simp only [Act.put, List.setIfInBounds_toArray, List.set_cons_zero, List.set_cons_succ])
        refine wpAnyH_done (by kernel_rfl) ?_ _
        clear hHeld
        go_wp2_with fail
        go_ret
        have e : (List.range n).all (condN ts) = false := by
          cases q : (List.range n).all (condN ts) with
          | false => rfl
          | true =>
            have := (List.all_eq_true.1 q) i (List.mem_range.2 hlt)
            rw [HCD.out, HC.out] at this
            cases this
        exact ⟨by rw [e]; rfl, HBD.out⟩
    · have q1 : ¬ (i : Int) < (n : Int) := by omega
      have HB := Lib.hid hbw
      have e : (List.range n).all (condN ts) = true := by
        rw [List.all_eq_true]
        intro x hx
        rw [List.mem_range] at hx
        exact (List.all_eq_true.1 hall) x (List.mem_range.2 (by omega))
      have HE := Lib.hid e
      clear hall hr hbw e
      go_wp2_with fail
      go_ret
      exact ⟨by rw [HE.out]; rfl, HB.out⟩
end Go.Proofs.YtlbiefddcimdgaaDoor
