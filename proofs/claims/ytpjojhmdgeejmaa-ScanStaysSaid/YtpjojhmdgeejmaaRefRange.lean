/- The contract of the document's Range of balanced trees. -/
import Derived.Test.YtpjojhmdgeejmaaRefIn
import Derived.Test.YtpjojhmdgeejmaaRefIs
import Derived.Test.YtpjojhmdgeejmaaPair
import Derived.Test.YtpjojhmdgeejmaaRefSameP
namespace Go.Proofs.Ytpjojhmdgeejmaa
open Go.RowKit
set_option linter.unusedVariables false

theorem infoPair : (Try.prog.info? 49).map (fun i => (i.zero, i.size, i.bytes)) = some (some (.agg #[.slice none 0 0, .slice none 0 0]), 2, 48) := by kernel_rfl
/-- The row of trees, the span's box, and the row of pairs that grows from block b3 on. -/
structure RG (w W : World) (sp : DH) (b3 : Nat) (a : Option Addr) (n c : Nat) (hs : List TH) (ts : List Tr) (rv : Value) (rs : List PH) : Prop where
  b : Below w.heap.size w W
  o : OwnT W w.heap.size 33 (.slice a n c) hs
  hw : Heads w hs ts
  box : RBox recD W 24 (w.heap.size + 1) sp
  row : OwnR recP W b3 49 rv rs
  rb : b3 ≤ W.heap.size
  wb : w.heap.size + 2 ≤ b3
  lb : ∀ g, (Value.slice a n c).ownBlock = some g → g < b3
section
variable {w W W' : World} {sp : DH} {b3 : Nat} {a : Option Addr} {n c : Nat} {hs : List TH} {ts : List Tr} {rv rv' : Value} {rs : List PH} {p : PH}
theorem RG.ls (x : RG w W sp b3 a n c hs ts rv rs) : LS w W a n c hs ts := ⟨x.o, x.hw.lower x.b, x.b⟩
theorem RG.below (x : RG w W sp b3 a n c hs ts rv rs) (hb : Below W.heap.size W W') : RG w W' sp b3 a n c hs ts rv rs :=
  ⟨x.b.trans (hb.mono x.b.size), x.o.keep hb, x.hw, x.box.below hb x.box.lt, x.row.keep hb, Nat.le_trans x.rb hb.size, x.wb, x.lb⟩
theorem RG.drew (x : RG w W sp b3 a n c hs ts rv rs) : RG w W.drew sp b3 a n c hs ts rv rs := x.below (Below.refl _ _).drew
theorem RG.app (x : RG w W sp b3 a n c hs ts rv rs) (hg : W.grownBy W' rv.ownBlock) (ho : OwnR recP W' b3 49 rv' (rs ++ [p])) : RG w W' sp b3 a n c hs ts rv' (rs ++ [p]) := by
  refine ⟨x.b.grown hg x.b.size (fun j hj => by have h1 := (x.row.base_le hj).1; have h2 := x.wb; omega), ?_, x.hw, x.box.grown hg (fun q => by have h1 := (x.row.base_le q.symm).1; have h2 := x.wb; omega), ho, Nat.le_trans x.rb hg.size, x.wb, x.lb⟩
  refine World.ownsRow.kept x.o hg ?_
  cases hb : (Value.slice a n c).ownBlock with
  | none => exact .inl rfl
  | some g =>
    right
    intro q
    have h1 := (x.row.base_le q.symm).1
    have h2 := x.lb g hb
    omega
end
/-- What the document's Range tells. -/
def Ranges (w : World) (kvs : List KV) (e : Ending) (w' : World) : Prop := ∃ ra r rc rs, e = .returned (.slice ra r rc) ∧ OwnR recP w' w.heap.size 49 (.slice ra r rc) rs ∧ rs.length = r ∧ PairsIn w rs kvs ∧ Below w.heap.size w w'
theorem filter_in {l : List KV} {i : Nat} {p : KV} {q : KV → Bool} (e : l[i]? = some p) (h : q p = true) : (l.take (i + 1)).filter q = (l.take i).filter q ++ [p] := by
  rw [List.take_add_one, e, List.filter_append]
  simp [h]
theorem filter_out {l : List KV} {i : Nat} {p : KV} {q : KV → Bool} (e : l[i]? = some p) (h : q p = false) : (l.take (i + 1)).filter q = (l.take i).filter q := by
  rw [List.take_add_one, e, List.filter_append]
  simp [h]
/-- At the entry: the tree's box, the span's box. -/
theorem enterS (w : World) (h : TH) (sp : DH) : Box ((w.alloc (.cells #[.int .i64 h.k, .slice h.ka h.kn h.kc, .slice h.va h.vn h.vc, .slice h.da h.dn h.dc, .slice h.ta h.tn h.tc] 33)).alloc (.cells #[.slice sp.ka sp.kn sp.kc, .slice sp.va sp.vn sp.vc, .bool sp.out] 24)) 33 w.heap.size h ∧ RBox recD ((w.alloc (.cells #[.int .i64 h.k, .slice h.ka h.kn h.kc, .slice h.va h.vn h.vc, .slice h.da h.dn h.dc, .slice h.ta h.tn h.tc] 33)).alloc (.cells #[.slice sp.ka sp.kn sp.kc, .slice sp.va sp.vn sp.vc, .bool sp.out] 24)) 24 (w.heap.size + 1) sp ∧ Below w.heap.size w ((w.alloc (.cells #[.int .i64 h.k, .slice h.ka h.kn h.kc, .slice h.va h.vn h.vc, .slice h.da h.dn h.dc, .slice h.ta h.tn h.tc] 33)).alloc (.cells #[.slice sp.ka sp.kn sp.kc, .slice sp.va sp.vn sp.vc, .bool sp.out] 24)) ∧ ((w.alloc (.cells #[.int .i64 h.k, .slice h.ka h.kn h.kc, .slice h.va h.vn h.vc, .slice h.da h.dn h.dc, .slice h.ta h.tn h.tc] 33)).alloc (.cells #[.slice sp.ka sp.kn sp.kc, .slice sp.va sp.vn sp.vc, .bool sp.out] 24)).heap.size = w.heap.size + 2 := by
  have s1 : (w.alloc (.cells #[.int .i64 h.k, .slice h.ka h.kn h.kc, .slice h.va h.vn h.vc, .slice h.da h.dn h.dc, .slice h.ta h.tn h.tc] 33)).heap.size = w.heap.size + 1 := by simp
  have q1 : Below w.heap.size w (w.alloc (.cells #[.int .i64 h.k, .slice h.ka h.kn h.kc, .slice h.va h.vn h.vc, .slice h.da h.dn h.dc, .slice h.ta h.tn h.tc] 33)) := (Below.refl _ _).alloc (Nat.le_refl _) _
  have x1 := Box.new w 33 h
  have x2 := DH.box (w.alloc (.cells #[.int .i64 h.k, .slice h.ka h.kn h.kc, .slice h.va h.vn h.vc, .slice h.da h.dn h.dc, .slice h.ta h.tn h.tc] 33)) 24 sp
  rw [s1] at x2
  exact ⟨x1.below ((Below.refl _ _).alloc (Nat.le_refl _) _) x1.lt, x2, q1.alloc (by rw [s1]; omega) _, by simp⟩

set_option maxRecDepth 100000 in
set_option maxHeartbeats 4000000 in
theorem refRange_any (a : AT) (h : TH) (sp : DH) (f t : List Int) (w : World) (ht : InTree w h a.tr) (hlim : Lim a.pairs) (hcn : countT a.tr ≤ 500) (hs : SpanIn w sp f t) : Calls Try.prog 19 #[h.v, sp.v] w (Ranges w (a.pairs.filter (fun p => inS f t sp.out p.1))) := by
  unfold TH.v DH.v
  obtain ⟨ti, hti, htz⟩ := Option.map_eq_some_iff.1 infoPair
  simp only [Prod.mk.injEq] at htz
  obtain ⟨hz0, hz1, hz2⟩ := htz
  have HTI := Lib.hid (And.intro hti (And.intro hz0 (And.intro hz1 hz2)))
  clear hti hz0 hz1 hz2
  obtain ⟨e1, e2, e3, e4⟩ := enterS w h sp
  have HSP := Lib.hid hs
  have hfo := (AT.tr_formed a).2 hlim
  have hln := list_len a.tr hfo
  have hlp : (listT a.tr).length = a.pairs.length := by rw [AT.tr_list, List.length_map, ← AT.nodes_kv, List.length_map]
  generalize hn : (listT a.tr).length = n at hln hlp
  have HN := Lib.hid (And.intro hn hlp)
  have hn5 : n ≤ 500 := by omega
  have HFO := Lib.hid hfo
  clear hs hfo hln hn hlp
  go_enter Try.func19, Try.ntmps19
  go_upto_region 1 with fail
  generalize ((w.alloc (.cells #[.int .i64 h.k, .slice h.ka h.kn h.kc, .slice h.va h.vn h.vc, .slice h.da h.dn h.dc, .slice h.ta h.tn h.tc] 33)).alloc (.cells #[.slice sp.ka sp.kn sp.kc, .slice sp.va sp.vn sp.vc, .bool sp.out] 24)) = w0 at *
  obtain ⟨x0, x1, x2, x3, x4⟩ := e1.cells
  have HX := Lib.hid (And.intro e2 (And.intro e3 e4))
  have HT := Lib.hid ht
  clear e1 e2 e3 e4 ht
  go_upto_region 3 with (first
    | (go_at_call 31
       refine (refList_any a.tr h w _ HT.out HX.out.2.1 HFO.out hcn).mono ?_
       rintro _ w3 ⟨v3, hs, rfl, ho3, hh3, hb3⟩
       obtain ⟨la, lc, hv3⟩ := ho3.sl
       rw [hh3.1, HN.out.1] at hv3
       subst hv3
       have HG3 : Hid (RG w w3 sp w3.heap.size la n lc hs (listT a.tr) (.slice none 0 0) []) := Lib.hid ⟨HX.out.2.1.trans (hb3.mono HX.out.2.1.size), ho3.weak HX.out.2.1.size, hh3, HX.out.1.below hb3 HX.out.1.lt, OwnR.nil _ _ _ _, Nat.le_refl _, by have := hb3.size; have := HX.out.2.2; omega, fun g hg => by
         rcases ho3.form with ⟨q1, _⟩ | ⟨g', c', q1, _, q3, _⟩
         · rw [q1] at hg
           cases hg
         · rw [q1] at hg
           have e : g' = g := Option.some.inj hg
           subst e
           exact q3⟩
       clear ho3 hh3 hb3 x0 x1 x2 x3 x4))
  go_wp2_with fail
  generalize w3.heap.size = b3 at *
  go_loopw [5, 7] (fun s5 s7 wx => ∃ (i : Nat) (ra : Option Addr) (r rc : Nat) (rs : List PH), i ≤ n ∧ s5 = .slice ra r rc ∧ rs.length = r ∧ s7 = .int .i64 i ∧ RG w wx sp b3 la n lc hs (listT a.tr) (.slice ra r rc) rs ∧ PairsIn w rs ((a.pairs.take i).filter (fun p => inS f t sp.out p.1))) (fun _ s7 _ => n - (intOf s7).toNat)
  case atStart => exact ⟨0, none, 0, 0, [], by omega, rfl, rfl, rfl, HG3.out, PairsIn.nil _⟩
  case round =>
    clear HG3
    obtain ⟨i, ra, r, rc, rs, hi, rfl, hrl, rfl, hrg, hpin⟩ := hrel
    have HPIN := Lib.hid hpin
    have hr5 : r ≤ 500 := by
      have h1 := hpin.1
      have h2 := List.length_filter_le (fun p : KV => inS f t sp.out p.1) (a.pairs.take i)
      rw [List.length_take] at h2
      omega
    by_cases hlt : i < n
    · have q1 : (i : Int) < (n : Int) := by omega
      have hhl : hs.length = n := hrg.hw.1.trans HN.out.1
      have him : i < hs.length := by omega
      have him2 : i < (listT a.tr).length := by rw [HN.out.1]; exact hlt
      obtain ⟨g, hga, -⟩ := hrg.o.at hhl i him
      subst hga
      obtain ⟨l, k, v, rr, e1, -, -, e4⟩ := AT.node_at a i him2
      have HE1 := Lib.hid e1
      have HE4 := Lib.hid e4
      have HKV : Hid (InBytes w (hs[i]).ka (hs[i]).kn (hs[i]).kc k ∧ InBytes w (hs[i]).va (hs[i]).vn (hs[i]).vc v) := Lib.hid (by
        have q := hrg.hw.2 i him him2
        rw [e1] at q
        obtain ⟨H, hp⟩ := q.parts
        exact ⟨hp.key, hp.val⟩)
      have HL := Lib.hid hrg
      clear hrg hpin e1 e4
      cases hin : inS f t sp.out k with
      | false =>
        have HIN := Lib.hid hin
        clear hin
        go_upto_region 6 with fail
        refine wp_region_held_drew (S := (fun W => (W.cell? ⟨(w.heap.size + 1), 0, none⟩ = some (.slice sp.ka sp.kn sp.kc) ∧ W.cell? ⟨(w.heap.size + 1), 1, none⟩ = some (.slice sp.va sp.vn sp.vc) ∧ W.cell? ⟨(w.heap.size + 1), 2, none⟩ = some (.bool sp.out)) ∧ W.cell? ⟨g, i * 5 + 1, none⟩ = some (.slice (hs[i]).ka (hs[i]).kn (hs[i]).kc))) (by kernel_rfl) ⟨HL.out.drew.box.three, (HL.out.drew.ls.cells hhl i him).2.1⟩ (fun hHeld => ?_)
        refine take_w (i := 0) (oi := ?oZ44) (v := ?vZ44) ?hiZ44 (by kernel_rfl) (by kernel_rfl) (by kernel_rfl) ?hQZ44 ?hwZ44 ?hyZ44 (by assumption) ?restZ44
        case hiZ44 => (simp only [List.getElem?_toArray, List.getElem?_cons_zero] <;> rfl)
        case hQZ44 => exact (fun _ _ _ h => h)
        case hwZ44 => rfl
        case hyZ44 => (intro w hSw; (try dsimp only at hSw); go_simp; try with_reducible rfl)
        (try simp only [Act.put, List.setIfInBounds_toArray, List.set_cons_zero, List.set_cons_succ])
        refine take_w (i := 1) (oi := ?oZ45) (v := ?vZ45) ?hiZ45 (by kernel_rfl) (by kernel_rfl) (by kernel_rfl) ?hQZ45 ?hwZ45 ?hyZ45 (by assumption) ?restZ45
        case hiZ45 => (simp only [List.getElem?_toArray, List.getElem?_cons_succ, List.getElem?_cons_zero] <;> rfl)
        case hQZ45 => exact (fun _ _ _ h => h)
        case hwZ45 => rfl
        case hyZ45 => (intro w hSw; (try dsimp only at hSw); go_simp; try with_reducible rfl)
        (try simp only [Act.put, List.setIfInBounds_toArray, List.set_cons_zero, List.set_cons_succ])
        refine take_w (i := 2) (oi := ?oZ46) (v := ?vZ46) ?hiZ46 (by kernel_rfl) (by kernel_rfl) (by kernel_rfl) ?hQZ46 ?hwZ46 ?hyZ46 (by assumption) ?restZ46
        case hiZ46 => (simp only [List.getElem?_toArray, List.getElem?_cons_succ, List.getElem?_cons_zero] <;> rfl)
        case hQZ46 => exact (fun _ _ _ h => h)
        case hwZ46 => rfl
        case hyZ46 => (intro w hSw; (try dsimp only at hSw); go_simp; try with_reducible rfl)
        (try simp only [Act.put, List.setIfInBounds_toArray, List.set_cons_zero, List.set_cons_succ])
        refine take_w (i := 3) (oi := ?oZ47) (v := ?vZ47) ?hiZ47 (by kernel_rfl) (by kernel_rfl) (by kernel_rfl) ?hQZ47 ?hwZ47 ?hyZ47 (by assumption) ?restZ47
        case hiZ47 => (simp only [List.getElem?_toArray, List.getElem?_cons_succ, List.getElem?_cons_zero] <;> rfl)
        case hQZ47 => exact (fun _ _ _ h => h)
        case hwZ47 => rfl
        case hyZ47 => (intro w hSw; (try dsimp only at hSw); go_simp; try with_reducible rfl)
        (try simp only [Act.put, List.setIfInBounds_toArray, List.set_cons_zero, List.set_cons_succ])
        refine take_w (i := 4) (oi := ?oZ48) (v := ?vZ48) ?hiZ48 (by kernel_rfl) (by kernel_rfl) (by kernel_rfl) ?hQZ48 ?hwZ48 ?hyZ48 (by assumption) ?restZ48
        case hiZ48 => (simp only [List.getElem?_toArray, List.getElem?_cons_succ, List.getElem?_cons_zero] <;> rfl)
        case hQZ48 => exact (fun _ _ _ h => h)
        case hwZ48 => rfl
        case hyZ48 => (intro w hSw; (try dsimp only at hSw); go_simp; try with_reducible rfl)
        (try simp only [Act.put, List.setIfInBounds_toArray, List.set_cons_zero, List.set_cons_succ])
        refine take_w (i := 5) (oi := ?oZ49) (v := ?vZ49) ?hiZ49 (by kernel_rfl) (by kernel_rfl) (by kernel_rfl) ?hQZ49 ?hwZ49 ?hyZ49 (by assumption) ?restZ49
        case hiZ49 => (simp only [List.getElem?_toArray, List.getElem?_cons_succ, List.getElem?_cons_zero] <;> rfl)
        case hQZ49 => exact (fun _ _ _ h => h)
        case hwZ49 => rfl
        case hyZ49 => (intro w hSw; (try dsimp only at hSw); go_simp; try with_reducible rfl)
        (try simp only [Act.put, List.setIfInBounds_toArray, List.set_cons_zero, List.set_cons_succ])
        refine wpAnyH_ready (rs := [6]) (by kernel_rfl) (by simp) ?_
        refine AllReadyH.cons (o := ?oZ50) ?hiZ50 (fun K hK => ?stZ50) AllReadyH.nil
        case hiZ50 => (simp only [List.getElem?_toArray, List.getElem?_cons_succ, List.getElem?_cons_zero] <;> rfl)
        go_simp
        go_at_call 12
        refine (refIn_any sp f t k (hs[i]).ka (hs[i]).kn (hs[i]).kc _ (HSP.out.below HL.out.drew.ls.b) (HL.out.drew.ls.key i him him2 HE1.out).1).mono ?_
        rintro _ w6 ⟨rfl, hb6⟩
        have HL6 := Lib.hid (HL.out.drew.below hb6)
        rw [HIN.out]
        clear hb6
        go_simp
        refine hK.out _ _ ?_ (fun hHeld => ?_)
        · (first | exact ⟨HL6.out.box.three, (HL6.out.ls.cells hhl i him).2.1⟩ | exact ⟨HL.out.drew.box.three, (HL.out.drew.ls.cells hhl i him).2.1⟩)
        clear hK K
        (try simp only [Act.put, List.setIfInBounds_toArray, List.set_cons_zero, List.set_cons_succ])
        refine take_w (i := 7) (oi := ?oZ51) (v := ?vZ51) ?hiZ51 (by kernel_rfl) (by kernel_rfl) (by kernel_rfl) ?hQZ51 ?hwZ51 ?hyZ51 (by assumption) ?restZ51
        case hiZ51 => (simp only [List.getElem?_toArray, List.getElem?_cons_succ, List.getElem?_cons_zero] <;> rfl)
        case hQZ51 => exact (fun _ _ _ h => h)
        case hwZ51 => rfl
        case hyZ51 => (intro w hSw; (try dsimp only at hSw); go_simp; try with_reducible rfl)
        (try simp only [Act.put, List.setIfInBounds_toArray, List.set_cons_zero, List.set_cons_succ])
        refine wpAnyH_done (by kernel_rfl) ?_ _
        clear hHeld
        go_wp2_with fail
        exact ⟨⟨i + 1, ra, r, rc, rs, by omega, rfl, hrl, by go_num, HL6.out, by rw [filter_out HE4.out HIN.out]; exact HPIN.out⟩, by simp [intOf]; omega⟩
      | true =>
        have HIN := Lib.hid hin
        clear hin
        go_upto_region 6 with fail
        refine wp_region_held_drew (S := (fun W => (W.cell? ⟨(w.heap.size + 1), 0, none⟩ = some (.slice sp.ka sp.kn sp.kc) ∧ W.cell? ⟨(w.heap.size + 1), 1, none⟩ = some (.slice sp.va sp.vn sp.vc) ∧ W.cell? ⟨(w.heap.size + 1), 2, none⟩ = some (.bool sp.out)) ∧ W.cell? ⟨g, i * 5 + 1, none⟩ = some (.slice (hs[i]).ka (hs[i]).kn (hs[i]).kc))) (by kernel_rfl) ⟨HL.out.drew.box.three, (HL.out.drew.ls.cells hhl i him).2.1⟩ (fun hHeld => ?_)
        refine take_w (i := 0) (oi := ?oZ52) (v := ?vZ52) ?hiZ52 (by kernel_rfl) (by kernel_rfl) (by kernel_rfl) ?hQZ52 ?hwZ52 ?hyZ52 (by assumption) ?restZ52
        case hiZ52 => (simp only [List.getElem?_toArray, List.getElem?_cons_zero] <;> rfl)
        case hQZ52 => exact (fun _ _ _ h => h)
        case hwZ52 => rfl
        case hyZ52 => (intro w hSw; (try dsimp only at hSw); go_simp; try with_reducible rfl)
        (try simp only [Act.put, List.setIfInBounds_toArray, List.set_cons_zero, List.set_cons_succ])
        refine take_w (i := 1) (oi := ?oZ53) (v := ?vZ53) ?hiZ53 (by kernel_rfl) (by kernel_rfl) (by kernel_rfl) ?hQZ53 ?hwZ53 ?hyZ53 (by assumption) ?restZ53
        case hiZ53 => (simp only [List.getElem?_toArray, List.getElem?_cons_succ, List.getElem?_cons_zero] <;> rfl)
        case hQZ53 => exact (fun _ _ _ h => h)
        case hwZ53 => rfl
        case hyZ53 => (intro w hSw; (try dsimp only at hSw); go_simp; try with_reducible rfl)
        (try simp only [Act.put, List.setIfInBounds_toArray, List.set_cons_zero, List.set_cons_succ])
        refine take_w (i := 2) (oi := ?oZ54) (v := ?vZ54) ?hiZ54 (by kernel_rfl) (by kernel_rfl) (by kernel_rfl) ?hQZ54 ?hwZ54 ?hyZ54 (by assumption) ?restZ54
        case hiZ54 => (simp only [List.getElem?_toArray, List.getElem?_cons_succ, List.getElem?_cons_zero] <;> rfl)
        case hQZ54 => exact (fun _ _ _ h => h)
        case hwZ54 => rfl
        case hyZ54 => (intro w hSw; (try dsimp only at hSw); go_simp; try with_reducible rfl)
        (try simp only [Act.put, List.setIfInBounds_toArray, List.set_cons_zero, List.set_cons_succ])
        refine take_w (i := 3) (oi := ?oZ55) (v := ?vZ55) ?hiZ55 (by kernel_rfl) (by kernel_rfl) (by kernel_rfl) ?hQZ55 ?hwZ55 ?hyZ55 (by assumption) ?restZ55
        case hiZ55 => (simp only [List.getElem?_toArray, List.getElem?_cons_succ, List.getElem?_cons_zero] <;> rfl)
        case hQZ55 => exact (fun _ _ _ h => h)
        case hwZ55 => rfl
        case hyZ55 => (intro w hSw; (try dsimp only at hSw); go_simp; try with_reducible rfl)
        (try simp only [Act.put, List.setIfInBounds_toArray, List.set_cons_zero, List.set_cons_succ])
        refine take_w (i := 4) (oi := ?oZ56) (v := ?vZ56) ?hiZ56 (by kernel_rfl) (by kernel_rfl) (by kernel_rfl) ?hQZ56 ?hwZ56 ?hyZ56 (by assumption) ?restZ56
        case hiZ56 => (simp only [List.getElem?_toArray, List.getElem?_cons_succ, List.getElem?_cons_zero] <;> rfl)
        case hQZ56 => exact (fun _ _ _ h => h)
        case hwZ56 => rfl
        case hyZ56 => (intro w hSw; (try dsimp only at hSw); go_simp; try with_reducible rfl)
        (try simp only [Act.put, List.setIfInBounds_toArray, List.set_cons_zero, List.set_cons_succ])
        refine take_w (i := 5) (oi := ?oZ57) (v := ?vZ57) ?hiZ57 (by kernel_rfl) (by kernel_rfl) (by kernel_rfl) ?hQZ57 ?hwZ57 ?hyZ57 (by assumption) ?restZ57
        case hiZ57 => (simp only [List.getElem?_toArray, List.getElem?_cons_succ, List.getElem?_cons_zero] <;> rfl)
        case hQZ57 => exact (fun _ _ _ h => h)
        case hwZ57 => rfl
        case hyZ57 => (intro w hSw; (try dsimp only at hSw); go_simp; try with_reducible rfl)
        (try simp only [Act.put, List.setIfInBounds_toArray, List.set_cons_zero, List.set_cons_succ])
        refine wpAnyH_ready (rs := [6]) (by kernel_rfl) (by simp) ?_
        refine AllReadyH.cons (o := ?oZ58) ?hiZ58 (fun K hK => ?stZ58) AllReadyH.nil
        case hiZ58 => (simp only [List.getElem?_toArray, List.getElem?_cons_succ, List.getElem?_cons_zero] <;> rfl)
        go_simp
        go_at_call 12
        refine (refIn_any sp f t k (hs[i]).ka (hs[i]).kn (hs[i]).kc _ (HSP.out.below HL.out.drew.ls.b) (HL.out.drew.ls.key i him him2 HE1.out).1).mono ?_
        rintro _ w6 ⟨rfl, hb6⟩
        have HL6 := Lib.hid (HL.out.drew.below hb6)
        rw [HIN.out]
        clear hb6
        go_simp
        refine hK.out _ _ ?_ (fun hHeld => ?_)
        · (first | exact ⟨HL6.out.box.three, (HL6.out.ls.cells hhl i him).2.1⟩ | exact ⟨HL.out.drew.box.three, (HL.out.drew.ls.cells hhl i him).2.1⟩)
        clear hK K
        (try simp only [Act.put, List.setIfInBounds_toArray, List.set_cons_zero, List.set_cons_succ])
        refine take_w (i := 7) (oi := ?oZ59) (v := ?vZ59) ?hiZ59 (by kernel_rfl) (by kernel_rfl) (by kernel_rfl) ?hQZ59 ?hwZ59 ?hyZ59 (by assumption) ?restZ59
        case hiZ59 => (simp only [List.getElem?_toArray, List.getElem?_cons_succ, List.getElem?_cons_zero] <;> rfl)
        case hQZ59 => exact (fun _ _ _ h => h)
        case hwZ59 => rfl
        case hyZ59 => (intro w hSw; (try dsimp only at hSw); go_simp; try with_reducible rfl)
        (try simp only [Act.put, List.setIfInBounds_toArray, List.set_cons_zero, List.set_cons_succ])
        refine wpAnyH_done (by kernel_rfl) ?_ _
        clear hHeld
        go_upto_region 8 with fail
        refine wp_region_held_drew (S := (fun W => W.cell? ⟨g, i * 5 + 1, none⟩ = some (.slice (hs[i]).ka (hs[i]).kn (hs[i]).kc) ∧ W.cell? ⟨g, i * 5 + 2, none⟩ = some (.slice (hs[i]).va (hs[i]).vn (hs[i]).vc))) (by kernel_rfl) ⟨(HL6.out.drew.ls.cells hhl i him).2.1, (HL6.out.drew.ls.cells hhl i him).2.2.1⟩ (fun hHeld => ?_)
        refine take_w (i := 0) (oi := ?oZ29) (v := ?vZ29) ?hiZ29 (by kernel_rfl) (by kernel_rfl) (by kernel_rfl) ?hQZ29 ?hwZ29 ?hyZ29 (by assumption) ?restZ29
        case hiZ29 => (simp only [List.getElem?_toArray, List.getElem?_cons_zero] <;> rfl)
        case hQZ29 => exact (fun _ _ _ h => h)
        case hwZ29 => rfl
        case hyZ29 => (intro w hSw; (try dsimp only at hSw); go_simp; try with_reducible rfl)
        (try simp only [Act.put, List.setIfInBounds_toArray, List.set_cons_zero, List.set_cons_succ])
        refine take_w (i := 1) (oi := ?oZ30) (v := ?vZ30) ?hiZ30 (by kernel_rfl) (by kernel_rfl) (by kernel_rfl) ?hQZ30 ?hwZ30 ?hyZ30 (by assumption) ?restZ30
        case hiZ30 => (simp only [List.getElem?_toArray, List.getElem?_cons_succ, List.getElem?_cons_zero] <;> rfl)
        case hQZ30 => exact (fun _ _ _ h => h)
        case hwZ30 => rfl
        case hyZ30 => (intro w hSw; (try dsimp only at hSw); go_simp; try with_reducible rfl)
        (try simp only [Act.put, List.setIfInBounds_toArray, List.set_cons_zero, List.set_cons_succ])
        refine take_w (i := 2) (oi := ?oZ31) (v := ?vZ31) ?hiZ31 (by kernel_rfl) (by kernel_rfl) (by kernel_rfl) ?hQZ31 ?hwZ31 ?hyZ31 (by assumption) ?restZ31
        case hiZ31 => (simp only [List.getElem?_toArray, List.getElem?_cons_succ, List.getElem?_cons_zero] <;> rfl)
        case hQZ31 => exact (fun _ _ _ h => h)
        case hwZ31 => rfl
        case hyZ31 => (intro w hSw; (try dsimp only at hSw); go_simp; try with_reducible rfl)
        (try simp only [Act.put, List.setIfInBounds_toArray, List.set_cons_zero, List.set_cons_succ])
        refine take_w (i := 3) (oi := ?oZ32) (v := ?vZ32) ?hiZ32 (by kernel_rfl) (by kernel_rfl) (by kernel_rfl) ?hQZ32 ?hwZ32 ?hyZ32 (by assumption) ?restZ32
        case hiZ32 => (simp only [List.getElem?_toArray, List.getElem?_cons_succ, List.getElem?_cons_zero] <;> rfl)
        case hQZ32 => exact (fun _ _ _ h => h)
        case hwZ32 => rfl
        case hyZ32 => (intro w hSw; (try dsimp only at hSw); go_simp; try with_reducible rfl)
        (try simp only [Act.put, List.setIfInBounds_toArray, List.set_cons_zero, List.set_cons_succ])
        refine take_w (i := 4) (oi := ?oZ33) (v := ?vZ33) ?hiZ33 (by kernel_rfl) (by kernel_rfl) (by kernel_rfl) ?hQZ33 ?hwZ33 ?hyZ33 (by assumption) ?restZ33
        case hiZ33 => (simp only [List.getElem?_toArray, List.getElem?_cons_succ, List.getElem?_cons_zero] <;> rfl)
        case hQZ33 => exact (fun _ _ _ h => h)
        case hwZ33 => rfl
        case hyZ33 => (intro w hSw; (try dsimp only at hSw); go_simp; try with_reducible rfl)
        (try simp only [Act.put, List.setIfInBounds_toArray, List.set_cons_zero, List.set_cons_succ])
        refine take_w (i := 5) (oi := ?oZ34) (v := ?vZ34) ?hiZ34 (by kernel_rfl) (by kernel_rfl) (by kernel_rfl) ?hQZ34 ?hwZ34 ?hyZ34 (by assumption) ?restZ34
        case hiZ34 => (simp only [List.getElem?_toArray, List.getElem?_cons_succ, List.getElem?_cons_zero] <;> rfl)
        case hQZ34 => exact (fun _ _ _ h => h)
        case hwZ34 => rfl
        case hyZ34 => (intro w hSw; (try dsimp only at hSw); go_simp; try with_reducible rfl)
        (try simp only [Act.put, List.setIfInBounds_toArray, List.set_cons_zero, List.set_cons_succ])
        refine take_w (i := 6) (oi := ?oZ35) (v := ?vZ35) ?hiZ35 (by kernel_rfl) (by kernel_rfl) (by kernel_rfl) ?hQZ35 ?hwZ35 ?hyZ35 (by assumption) ?restZ35
        case hiZ35 => (simp only [List.getElem?_toArray, List.getElem?_cons_succ, List.getElem?_cons_zero] <;> rfl)
        case hQZ35 => exact (fun _ _ _ h => h)
        case hwZ35 => rfl
        case hyZ35 => (intro w hSw; (try dsimp only at hSw); go_simp; try with_reducible rfl)
        (try simp only [Act.put, List.setIfInBounds_toArray, List.set_cons_zero, List.set_cons_succ])
        refine take_w (i := 7) (oi := ?oZ36) (v := ?vZ36) ?hiZ36 (by kernel_rfl) (by kernel_rfl) (by kernel_rfl) ?hQZ36 ?hwZ36 ?hyZ36 (by assumption) ?restZ36
        case hiZ36 => (simp only [List.getElem?_toArray, List.getElem?_cons_succ, List.getElem?_cons_zero] <;> rfl)
        case hQZ36 => exact (fun _ _ _ h => h)
        case hwZ36 => rfl
        case hyZ36 => (intro w hSw; (try dsimp only at hSw); go_simp; try with_reducible rfl)
        (try simp only [Act.put, List.setIfInBounds_toArray, List.set_cons_zero, List.set_cons_succ])
        refine take_w (i := 8) (oi := ?oZ37) (v := ?vZ37) ?hiZ37 (by kernel_rfl) (by kernel_rfl) (by kernel_rfl) ?hQZ37 ?hwZ37 ?hyZ37 (by assumption) ?restZ37
        case hiZ37 => (simp only [List.getElem?_toArray, List.getElem?_cons_succ, List.getElem?_cons_zero] <;> rfl)
        case hQZ37 => exact (fun _ _ _ h => h)
        case hwZ37 => rfl
        case hyZ37 => (intro w hSw; (try dsimp only at hSw); go_simp; try with_reducible rfl)
        (try simp only [Act.put, List.setIfInBounds_toArray, List.set_cons_zero, List.set_cons_succ])
        refine take_w (i := 9) (oi := ?oZ38) (v := ?vZ38) ?hiZ38 (by kernel_rfl) (by kernel_rfl) (by kernel_rfl) ?hQZ38 ?hwZ38 ?hyZ38 (by assumption) ?restZ38
        case hiZ38 => (simp only [List.getElem?_toArray, List.getElem?_cons_succ, List.getElem?_cons_zero] <;> rfl)
        case hQZ38 => exact (fun _ _ _ h => h)
        case hwZ38 => rfl
        case hyZ38 => (intro w hSw; (try dsimp only at hSw); go_simp; try with_reducible rfl)
        (try simp only [Act.put, List.setIfInBounds_toArray, List.set_cons_zero, List.set_cons_succ])
        refine take_w (i := 10) (oi := ?oZ39) (v := ?vZ39) ?hiZ39 (by kernel_rfl) (by kernel_rfl) (by kernel_rfl) ?hQZ39 ?hwZ39 ?hyZ39 (by assumption) ?restZ39
        case hiZ39 => (simp only [List.getElem?_toArray, List.getElem?_cons_succ, List.getElem?_cons_zero] <;> rfl)
        case hQZ39 => exact (fun _ _ _ h => h)
        case hwZ39 => rfl
        case hyZ39 => (intro w hSw; (try dsimp only at hSw); go_simp; try with_reducible rfl)
        (try simp only [Act.put, List.setIfInBounds_toArray, List.set_cons_zero, List.set_cons_succ])
        refine take_w (i := 11) (oi := ?oZ40) (v := ?vZ40) ?hiZ40 (by kernel_rfl) (by kernel_rfl) (by kernel_rfl) ?hQZ40 ?hwZ40 ?hyZ40 (by assumption) ?restZ40
        case hiZ40 => (simp only [List.getElem?_toArray, List.getElem?_cons_succ, List.getElem?_cons_zero] <;> rfl)
        case hQZ40 => exact (fun _ _ _ h => h)
        case hwZ40 => rfl
        case hyZ40 => (intro w hSw; (try dsimp only at hSw); go_simp; try with_reducible rfl)
        (try simp only [Act.put, List.setIfInBounds_toArray, List.set_cons_zero, List.set_cons_succ])
        refine wpAnyH_ready (rs := [12]) (by kernel_rfl) (by simp) ?_
        refine AllReadyH.cons (o := ?oZ41) ?hiZ41 (fun K hK => ?stZ41) AllReadyH.nil
        case hiZ41 => (simp only [List.getElem?_toArray, List.getElem?_cons_succ, List.getElem?_cons_zero] <;> rfl)
        go_simp
        refine hK.out _ _ ?_ (fun hHeld => ?_)
        · (first | exact ⟨(HL9.out.ls.cells hhl i him).2.1, (HL9.out.ls.cells hhl i him).2.2.1⟩ | exact ⟨(HL6.out.drew.ls.cells hhl i him).2.1, (HL6.out.drew.ls.cells hhl i him).2.2.1⟩ | exact ⟨((HL6.out.drew.below ((Below.refl _ _).alloc (Nat.le_refl _) _)).ls.cells hhl i him).2.1, ((HL6.out.drew.below ((Below.refl _ _).alloc (Nat.le_refl _) _)).ls.cells hhl i him).2.2.1⟩)
        clear hK K
        (try simp only [Act.put, List.setIfInBounds_toArray, List.set_cons_zero, List.set_cons_succ])
        refine wpAnyH_ready (rs := [13]) (by kernel_rfl) (by simp) ?_
        refine AllReadyH.cons (o := ?oZ42) ?hiZ42 (fun K hK => ?stZ42) AllReadyH.nil
        case hiZ42 => (simp only [List.getElem?_toArray, List.getElem?_cons_succ, List.getElem?_cons_zero] <;> rfl)
        have qa : Below w6.drew.heap.size w6.drew (w6.drew.alloc (.cells #[.slice (hs[i]).ka (hs[i]).kn (hs[i]).kc, .slice (hs[i]).va (hs[i]).vn (hs[i]).vc] 49)) := (Below.refl _ _).alloc (Nat.le_refl _) _
        have HLA := Lib.hid (HL6.out.drew.below qa)
        refine step_append_rec _ rfl (.tmp 25) (.tmp 37) 35 rfl recP b3 49 ti _ 48 Try.underlying35 HTI.out.1 HTI.out.2.1 HTI.out.2.2.1 HTI.out.2.2.2 rfl (.slice ra r rc) rs rfl HLA.out.row w6.heap.size 1 (⟨(hs[i]).ka, (hs[i]).kn, (hs[i]).kc, (hs[i]).va, (hs[i]).vn, (hs[i]).vc⟩ : PH) rfl (RBox.cell (c := recP) (r := (⟨(hs[i]).ka, (hs[i]).kn, (hs[i]).kc, (hs[i]).va, (hs[i]).vn, (hs[i]).vc⟩ : PH)) (heap_alloc_new w6.drew _)) ?_ (by omega) HLA.out.rb ?_
        · rw [hrl]
          omega
        intro v9 w9 ho9 hg9 hw9 _
        obtain ⟨ra9, rc9, hv9⟩ := ho9.sl
        have hlen9 : (rs ++ [(⟨(hs[i]).ka, (hs[i]).kn, (hs[i]).kc, (hs[i]).va, (hs[i]).vn, (hs[i]).vc⟩ : PH)]).length = r + 1 := by simp [hrl]
        rw [hlen9] at hv9
        subst hv9
        have HL9 := Lib.hid (HLA.out.app hg9 ho9)
        have HLE9 := Lib.hid hlen9
        clear ho9 hg9 hlen9 qa
        refine hK.out _ _ ?_ (fun hHeld => ?_)
        · (first | exact ⟨(HL9.out.ls.cells hhl i him).2.1, (HL9.out.ls.cells hhl i him).2.2.1⟩ | exact ⟨(HL6.out.drew.ls.cells hhl i him).2.1, (HL6.out.drew.ls.cells hhl i him).2.2.1⟩ | exact ⟨((HL6.out.drew.below ((Below.refl _ _).alloc (Nat.le_refl _) _)).ls.cells hhl i him).2.1, ((HL6.out.drew.below ((Below.refl _ _).alloc (Nat.le_refl _) _)).ls.cells hhl i him).2.2.1⟩)
        clear hK K
        (try simp only [Act.put, List.setIfInBounds_toArray, List.set_cons_zero, List.set_cons_succ])
        refine take_w (i := 14) (oi := ?oZ43) (v := ?vZ43) ?hiZ43 (by kernel_rfl) (by kernel_rfl) (by kernel_rfl) ?hQZ43 ?hwZ43 ?hyZ43 (by assumption) ?restZ43
        case hiZ43 => (simp only [List.getElem?_toArray, List.getElem?_cons_succ, List.getElem?_cons_zero] <;> rfl)
        case hQZ43 => exact (fun _ _ _ h => h)
        case hwZ43 => rfl
        case hyZ43 => (intro w hSw; (try dsimp only at hSw); go_simp; try with_reducible rfl)
        (try simp only [Act.put, List.setIfInBounds_toArray, List.set_cons_zero, List.set_cons_succ])
        refine wpAnyH_done (by kernel_rfl) ?_ _
        clear hHeld
        go_wp2_with fail
        exact ⟨⟨i + 1, ra9, r + 1, rc9, _, by omega, rfl, HLE9.out, by go_num, HL9.out, by rw [filter_in HE4.out HIN.out]; exact HPIN.out.snoc HKV.out.1 HKV.out.2⟩, by simp [intOf]; omega⟩
    · obtain rfl : i = n := by omega
      have q1 : ¬ (i : Int) < (i : Int) := by omega
      go_wp2_with fail
      go_ret
      refine ⟨ra, r, rc, rs, rfl, hrg.row.weak (by have := hrg.wb; omega), hrl, ?_, hrg.b⟩
      have hp := HPIN.out
      rw [List.take_of_length_le (by have := HN.out.2; omega)] at hp
      exact hp
end Go.Proofs.Ytpjojhmdgeejmaa
