/- The contracts of the document's Is and Get of AVL trees. -/
import Derived.Test.YtpjojhmdgeejmaaRefPut
import Derived.Test.YtpjojhmdgeejmaaRefList
import Derived.Test.YtpjojhmdgeejmaaHeads
namespace Go.Proofs.Ytpjojhmdgeejmaa
open Go.RowKit
set_option linter.unusedVariables false

/-- What is asked of the i-th node. -/
def condL (l : List Tr) (i : Nat) : Bool := (i == 0 || ltL (l.getD (i - 1) (.mk 0 [] [] [] [])).key (l.getD i (.mk 0 [] [] [] [])).key) && (decide (tiltT (l.getD i (.mk 0 [] [] [] [])) ≤ 1) && decide (-1 ≤ tiltT (l.getD i (.mk 0 [] [] [] []))))
theorem levelB_eq (l : List Tr) : levelB l = (List.range l.length).all (condL l) := rfl
theorem levelB_no {l : List Tr} {i : Nat} (hi : i < l.length) (h : condL l i = false) : levelB l = false := by
  rw [levelB_eq, Bool.eq_false_iff]
  intro q
  have := List.all_eq_true.1 q i (List.mem_range.2 hi)
  rw [h] at this
  cases this
theorem all_step {p : Nat → Bool} {i : Nat} (h : (List.range i).all p = true) (hp : p i = true) : (List.range (i + 1)).all p = true := by
  rw [List.range_succ, List.all_append, h]
  simp [hp]
theorem tilt_node (l : AT) (k v : List Int) (r : AT) : tiltT (AT.node l k v r).tr = (l.depth : Int) - (r.depth : Int) := (AT.tilt_tr (n := AT.node l k v r) rfl).1
theorem condL_zero {ts : List Tr} {l : AT} {k v : List Int} {r : AT} (h : ts.getD 0 (.mk 0 [] [] [] []) = (AT.node l k v r).tr) : condL ts 0 = (decide ((l.depth : Int) - (r.depth : Int) ≤ 1) && decide (-1 ≤ (l.depth : Int) - (r.depth : Int))) := by
  unfold condL
  rw [h, tilt_node]
  rfl
theorem condL_succ {ts : List Tr} {j : Nat} {l : AT} {k v : List Int} {r : AT} {l' : AT} {k' v' : List Int} {r' : AT} (h : ts.getD (j + 1) (.mk 0 [] [] [] []) = (AT.node l k v r).tr) (h' : ts.getD j (.mk 0 [] [] [] []) = (AT.node l' k' v' r').tr) :
    condL ts (j + 1) = (ltL k' k && (decide ((l.depth : Int) - (r.depth : Int) ≤ 1) && decide (-1 ≤ (l.depth : Int) - (r.depth : Int)))) := by
  unfold condL
  rw [Nat.add_sub_cancel, h, h', tilt_node]
  have e : (j + 1 == 0) = false := rfl
  rw [e, Bool.false_or]
  rfl
theorem AT.nodes_in : ∀ (a n : AT), n ∈ a.nodes → n.depth ≤ a.depth ∧ ∀ p ∈ n.pairs, p ∈ a.pairs := by
  intro a
  induction a with
  | nil => intro n hn; simp [AT.nodes] at hn
  | node l k v r ihl ihr =>
    intro n hn
    simp only [AT.nodes, List.mem_append, List.mem_cons] at hn
    simp only [AT.depth, AT.pairs, List.mem_append, List.mem_cons]
    rcases hn with hn | rfl | hn
    · have := ihl n hn
      exact ⟨by omega, fun p hp => .inl (this.2 p hp)⟩
    · simp only [AT.depth, AT.pairs, List.mem_append, List.mem_cons]
      exact ⟨by omega, fun p hp => hp⟩
    · have := ihr n hn
      exact ⟨by omega, fun p hp => .inr (.inr (this.2 p hp))⟩
/-- The i-th node of a full tree. -/
theorem AT.node_at (a : AT) (i : Nat) (hi : i < (listT a.tr).length) : ∃ l k v r, (listT a.tr)[i] = (AT.node l k v r).tr ∧ (listT a.tr).getD i (.mk 0 [] [] [] []) = (AT.node l k v r).tr ∧ AT.node l k v r ∈ a.nodes ∧ a.pairs[i]? = some (k, v) := by
  have e := AT.tr_list a
  have hi2 : i < a.nodes.length := by rw [e] at hi; simpa using hi
  cases hn : a.nodes[i] with
  | nil => exact absurd (AT.nodes_node a _ (List.getElem_mem hi2)) (by rw [hn]; simp [AT.isNil])
  | node l k v r =>
    have h1 : (listT a.tr)[i] = (AT.node l k v r).tr := by
      simp only [e, List.getElem_map, hn]
    refine ⟨l, k, v, r, h1, ?_, by rw [← hn]; exact List.getElem_mem hi2, ?_⟩
    · rw [List.getD, List.getElem?_eq_getElem hi, Option.getD_some, h1]
    · rw [← AT.nodes_kv, List.getElem?_map, List.getElem?_eq_getElem hi2, hn]
      rfl
theorem check_zeroR {t : Tr} (h : checkT t = 0) : formedT t = true ∧ deepT t 64 = false := by
  unfold checkT at h
  split at h
  · cases h
  · split at h
    · exact ⟨by assumption, by rename_i q _; simpa using q⟩
    · cases h
/-- A row of trees, and the memory that was there. -/
structure LS (w W : World) (a : Option Addr) (n c : Nat) (hs : List TH) (ts : List Tr) : Prop where
  o : OwnT W w.heap.size 33 (.slice a n c) hs
  hh : Heads W hs ts
  b : Below w.heap.size w W
theorem LS.below {w W W' : World} {a : Option Addr} {n c : Nat} {hs : List TH} {ts : List Tr} (x : LS w W a n c hs ts) (hb : Below W.heap.size W W') : LS w W' a n c hs ts :=
  ⟨x.o.keep hb, x.hh.lower hb, x.b.trans (hb.mono x.b.size)⟩
theorem LS.drew {w W : World} {a : Option Addr} {n c : Nat} {hs : List TH} {ts : List Tr} (x : LS w W a n c hs ts) : LS w W.drew a n c hs ts := x.below (Below.refl _ _).drew
theorem LS.cells {w W : World} {g n c : Nat} {hs : List TH} {ts : List Tr} (x : LS w W (some ⟨g, 0, none⟩) n c hs ts) (hl : hs.length = n) (i : Nat) (hi : i < hs.length) : W.cell? ⟨g, i * 5, none⟩ = some (.int .i64 (hs[i]).k) ∧ W.cell? ⟨g, i * 5 + 1, none⟩ = some (.slice (hs[i]).ka (hs[i]).kn (hs[i]).kc) ∧ W.cell? ⟨g, i * 5 + 2, none⟩ = some (.slice (hs[i]).va (hs[i]).vn (hs[i]).vc) ∧ W.cell? ⟨g, i * 5 + 3, none⟩ = some (.slice (hs[i]).da (hs[i]).dn (hs[i]).dc) ∧ W.cell? ⟨g, i * 5 + 4, none⟩ = some (.slice (hs[i]).ta (hs[i]).tn (hs[i]).tc) := by
  obtain ⟨g', e, h⟩ := x.o.at hl i hi
  injection e with e
  injection e with e
  subst e
  exact h
/-- The row, and the parts of one of its trees. -/
structure LN (w W : World) (a : Option Addr) (n c : Nat) (hs : List TH) (ts : List Tr) (hh : TH) (x : AT) (H : Nat → TH) : Prop where
  s : LS w W a n c hs ts
  p : TreeAt W hh x.tr H
theorem LN.below {w W W' : World} {a : Option Addr} {n c : Nat} {hs : List TH} {ts : List Tr} {hh : TH} {x : AT} {H : Nat → TH} (d : LN w W a n c hs ts hh x H) (hb : Below W.heap.size W W') : LN w W' a n c hs ts hh x H := ⟨d.s.below hb, d.p.below hb⟩
theorem LN.drew {w W : World} {a : Option Addr} {n c : Nat} {hs : List TH} {ts : List Tr} {hh : TH} {x : AT} {H : Nat → TH} (d : LN w W a n c hs ts hh x H) : LN w W.drew a n c hs ts hh x H := d.below (Below.refl _ _).drew
theorem LS.key {w W : World} {a : Option Addr} {n c : Nat} {hs : List TH} {ts : List Tr} (x : LS w W a n c hs ts) (i : Nat) (h1 : i < hs.length) (h2 : i < ts.length) {l : AT} {k v : List Int} {r : AT} (e : ts[i] = (AT.node l k v r).tr) : InBytes W (hs[i]).ka (hs[i]).kn (hs[i]).kc k ∧ InBytes W (hs[i]).va (hs[i]).vn (hs[i]).vc v := by
  have q := x.hh.2 i h1 h2
  rw [e] at q
  obtain ⟨H, hp⟩ := q.parts
  exact ⟨hp.key, hp.val⟩

set_option maxRecDepth 100000 in
set_option maxHeartbeats 4000000 in
theorem refIs_any (t : Tr) (h : TH) (w : World) (ht : InTree w h t) (hcn : countT t ≤ 500) : Calls Try.prog 17 #[h.v] w (Says w (.bool (isT t))) := by
  unfold TH.v
  have hbox := Box.new w 33 h
  have HX := Lib.hid hbox
  have HT := Lib.hid ht
  obtain ⟨x0, x1, x2, x3, x4⟩ := hbox.cells
  clear hbox ht
  go_enter Try.func17, Try.ntmps17
  by_cases hc : checkT t = 0
  · have hc0 : ((checkT t : Nat) : Int) = 0 := by rw [hc]; rfl
    have HC0 := Lib.hid hc0
    have HC := Lib.hid hc
    clear hc hc0
    cases hf : fullT t with
    | false =>
      have HF := Lib.hid hf
      clear hf
      go_wp2_with (first
    | (go_at_call 29
       refine (refCheck_any t h _ ?_).mono ?_
       · exact HT.out.lower ((Below.refl _ _).alloc (Nat.le_refl _) _)
       rintro _ w1 ⟨rfl, hb1⟩
       have HB1 : Hid (Below w.heap.size w w1) := Lib.hid (((Below.refl w.heap.size w).alloc (Nat.le_refl _) _).trans (hb1.mono (by simp)))
       have HX1 := Lib.hid (HX.out.below hb1 HX.out.lt)
       obtain ⟨y0, y1, y2, y3, y4⟩ := HX1.out.cells
       rw [HC0.out]
       clear hb1 x0 x1 x2 x3 x4)
    | (go_at_call 30
       refine (refFull_any t h _ (HT.out.lower HB1.out)).mono ?_
       rintro _ w2 ⟨rfl, hb2⟩
       have HB2 : Hid (Below w.heap.size w w2) := Lib.hid (HB1.out.trans (hb2.mono HB1.out.size))
       have HX2 := Lib.hid (HX1.out.below hb2 HX1.out.lt)
       obtain ⟨z0, z1, z2, z3, z4⟩ := HX2.out.cells
       rw [HF.out]
       clear hb2 y0 y1 y2 y3 y4))
      go_ret
      refine ⟨?_, HB2.out⟩
      unfold isT
      rw [HF.out, Bool.false_and, Bool.and_false]
      rfl
    | true =>
      have HF := Lib.hid hf
      obtain ⟨hfo, hde⟩ := check_zeroR HC.out
      obtain ⟨a, rfl⟩ := AT.of_full t hfo hf
      have hln := list_len a.tr hfo
      generalize hn : (listT a.tr).length = n at hln
      have HN := Lib.hid hn
      have hn5 : n ≤ 500 := by omega
      have HFO := Lib.hid hfo
      have HE : Hid (isT a.tr = levelB (listT a.tr)) := Lib.hid (by unfold isT; rw [HC.out, hf]; rfl)
      have HAD : Hid (a.depth ≤ 64 ∧ Lim a.pairs) := Lib.hid (by
        rw [AT.tr_deep a 64 (by omega), decide_eq_false_iff_not] at hde
        exact ⟨by omega, (AT.tr_formed a).1 hfo⟩)
      clear hf hfo hde hln hn
      go_upto_region 7 with (first
    | (go_at_call 29
       refine (refCheck_any a.tr h _ ?_).mono ?_
       · exact HT.out.lower ((Below.refl _ _).alloc (Nat.le_refl _) _)
       rintro _ w1 ⟨rfl, hb1⟩
       have HB1 : Hid (Below w.heap.size w w1) := Lib.hid (((Below.refl w.heap.size w).alloc (Nat.le_refl _) _).trans (hb1.mono (by simp)))
       have HX1 := Lib.hid (HX.out.below hb1 HX.out.lt)
       obtain ⟨y0, y1, y2, y3, y4⟩ := HX1.out.cells
       rw [HC0.out]
       clear hb1 x0 x1 x2 x3 x4)
    | (go_at_call 30
       refine (refFull_any a.tr h _ (HT.out.lower HB1.out)).mono ?_
       rintro _ w2 ⟨rfl, hb2⟩
       have HB2 : Hid (Below w.heap.size w w2) := Lib.hid (HB1.out.trans (hb2.mono HB1.out.size))
       have HX2 := Lib.hid (HX1.out.below hb2 HX1.out.lt)
       obtain ⟨z0, z1, z2, z3, z4⟩ := HX2.out.cells
       rw [HF.out]
       clear hb2 y0 y1 y2 y3 y4)
    | (go_at_call 31
       refine (refList_any a.tr h w2 w2 (HT.out.lower HB2.out) (Below.refl _ _) HFO.out hcn).mono ?_
       rintro _ w3 ⟨v3, hs, rfl, ho3, hh3, hb3⟩
       obtain ⟨la, lc, hv3⟩ := ho3.sl
       rw [hh3.1, HN.out] at hv3
       subst hv3
       have HS3 : Hid (LS w w3 la n lc hs (listT a.tr)) := Lib.hid ⟨ho3.weak HB2.out.size, hh3.lower hb3, HB2.out.trans (hb3.mono HB2.out.size)⟩
       clear ho3 hh3 hb3 z0 z1 z2 z3 z4))
      clear HX HX1 HX2 HB1 HB2 HC0 HC HF HFO HT
      go_wp2_with fail
      go_loopw [5] (fun s5 wx => ∃ i : Nat, i ≤ n ∧ s5 = .int .i64 i ∧ LS w wx la n lc hs (listT a.tr) ∧ (List.range i).all (condL (listT a.tr)) = true) (fun s5 _ => n - (intOf s5).toNat)
      case atStart => exact ⟨0, by omega, rfl, HS3.out, rfl⟩
      case round =>
        clear HS3
        obtain ⟨i, hi, rfl, hls, hall⟩ := hrel
        have HALL := Lib.hid hall
        by_cases hlt : i < n
        · have q1 : (i : Int) < (n : Int) := by omega
          have hhl : hs.length = n := hls.hh.1.trans HN.out
          have him : i < hs.length := by omega
          have him2 : i < (listT a.tr).length := by rw [HN.out]; exact hlt
          obtain ⟨g, hga, -⟩ := hls.o.at hhl i him
          subst hga
          obtain ⟨l, k, v, r, e1, e2, e3, -⟩ := AT.node_at a i him2
          obtain ⟨hsd, hsp⟩ := AT.nodes_in a _ e3
          have hld : l.depth ≤ 64 := by have := HAD.out.1; simp only [AT.depth] at hsd; omega
          have hrd : r.depth ≤ 64 := by have := HAD.out.1; simp only [AT.depth] at hsd; omega
          have HLD : Hid ((formedT l.tr = true ∧ deepT l.tr 64 = false) ∧ (formedT r.tr = true ∧ deepT r.tr 64 = false)) := Lib.hid (by
            have hlim : Lim (AT.node l k v r).pairs := fun p hp => HAD.out.2 p (hsp p hp)
            have q := Lim.node hlim
            refine ⟨⟨(AT.tr_formed l).2 q.1, ?_⟩, ⟨(AT.tr_formed r).2 q.2.2.2, ?_⟩⟩
            · rw [AT.tr_deep l 64 (by omega), decide_eq_false_iff_not]; omega
            · rw [AT.tr_deep r 64 (by omega), decide_eq_false_iff_not]; omega)
          have hq := hls.hh.2 i him him2
          rw [e1] at hq
          obtain ⟨H, hp⟩ := hq.parts
          obtain ⟨g2, off2, hta, -, -⟩ := hp.place (by have h2 : (hs[i]).tn = 2 := hp.len.symm; omega)
          have ht1 : (1 : Int) < ((hs[i]).tn : Int) := by have h2 : (hs[i]).tn = 2 := hp.len.symm; omega
          have ht0 : 0 < (hs[i]).tn := by omega
          have HTA := Lib.hid hta
          have HL : Hid (LN w wr (some ⟨g, 0, none⟩) n lc hs (listT a.tr) (hs[i]) (AT.node l k v r) H) := Lib.hid ⟨hls, hp⟩
          have HE1 := Lib.hid e1
          have HE2 := Lib.hid e2
          have keep12 : ∀ (W : World), LN w W (some ⟨g, 0, none⟩) n lc hs (listT a.tr) (hs[i]) (AT.node l k v r) H → (fun W => W.cell? ⟨g, i * 5 + 4, none⟩ = some (.slice (some ⟨g2, off2, none⟩) (hs[i]).tn (hs[i]).tc) ∧ (W.cell? ⟨g2, off2, none⟩ = some (.int .i64 (H 0).k) ∧ W.cell? ⟨g2, off2 + 1, none⟩ = some (.slice (H 0).ka (H 0).kn (H 0).kc) ∧ W.cell? ⟨g2, off2 + 2, none⟩ = some (.slice (H 0).va (H 0).vn (H 0).vc) ∧ W.cell? ⟨g2, off2 + 3, none⟩ = some (.slice (H 0).da (H 0).dn (H 0).dc) ∧ W.cell? ⟨g2, off2 + 4, none⟩ = some (.slice (H 0).ta (H 0).tn (H 0).tc)) ∧ W.cell? ⟨g2, off2 + 5, none⟩ = some (.int .i64 (H 1).k) ∧ W.cell? ⟨g2, off2 + 5 + 1, none⟩ = some (.slice (H 1).ka (H 1).kn (H 1).kc) ∧ W.cell? ⟨g2, off2 + 5 + 2, none⟩ = some (.slice (H 1).va (H 1).vn (H 1).vc) ∧ W.cell? ⟨g2, off2 + 5 + 3, none⟩ = some (.slice (H 1).da (H 1).dn (H 1).dc) ∧ W.cell? ⟨g2, off2 + 5 + 4, none⟩ = some (.slice (H 1).ta (H 1).tn (H 1).tc)) W := fun W x =>
            ⟨((x.s.cells hhl i him).2.2.2.2).trans (by rw [HTA.out]), x.p.kid0 HTA.out (by omega), x.p.kid1 HTA.out (by omega)⟩
          have KEEP := Lib.hid keep12
          clear keep12 hls hall hq hp hta e1 e2 e3 hsd hsp
          rcases Nat.eq_zero_or_pos i with hz | hpos
          · have hcnd := condL_zero (by rw [← hz]; exact HE2.out)
            rw [← hz] at hcnd
            have HCD := Lib.hid hcnd
            have q2 : ¬ 0 < i := by omega
            clear hcnd hz
            go_upto_region 10 with fail
            refine wp_region_held_drew (S := fun _ => True) (by kernel_rfl) trivial (fun hHeld => ?_)
            refine take_w (i := 0) (oi := ?oZ1) (v := ?vZ1) ?hiZ1 (by kernel_rfl) (by kernel_rfl) (by kernel_rfl) ?hQZ1 ?hwZ1 ?hyZ1 (by assumption) ?restZ1
            case hiZ1 => (simp only [List.getElem?_toArray, List.getElem?_cons_zero] <;> rfl)
            case hQZ1 => exact (fun _ _ _ h => h)
            case hwZ1 => rfl
            case hyZ1 => (intro w hSw; (try dsimp only at hSw); go_simp; try with_reducible rfl)
            (try simp only [Act.put, List.setIfInBounds_toArray, List.set_cons_zero, List.set_cons_succ])
            refine take_w (i := 1) (oi := ?oZ2) (v := ?vZ2) ?hiZ2 (by kernel_rfl) (by kernel_rfl) (by kernel_rfl) ?hQZ2 ?hwZ2 ?hyZ2 (by assumption) ?restZ2
            case hiZ2 => (simp only [List.getElem?_toArray, List.getElem?_cons_succ, List.getElem?_cons_zero] <;> rfl)
            case hQZ2 => exact (fun _ _ _ h => h)
            case hwZ2 => rfl
            case hyZ2 => (intro w hSw; (try dsimp only at hSw); go_simp; try with_reducible rfl)
            (try simp only [Act.put, List.setIfInBounds_toArray, List.set_cons_zero, List.set_cons_succ])
            refine take_w (i := 2) (oi := ?oZ3) (v := ?vZ3) ?hiZ3 (by kernel_rfl) (by kernel_rfl) (by kernel_rfl) ?hQZ3 ?hwZ3 ?hyZ3 (by assumption) ?restZ3
            case hiZ3 => (simp only [List.getElem?_toArray, List.getElem?_cons_succ, List.getElem?_cons_zero] <;> rfl)
            case hQZ3 => exact (fun _ _ _ h => h)
            case hwZ3 => rfl
            case hyZ3 => (intro w hSw; (try dsimp only at hSw); go_simp; try with_reducible rfl)
            (try simp only [Act.put, List.setIfInBounds_toArray, List.set_cons_zero, List.set_cons_succ])
            refine take_u (i := 3) (oi := ?oZ4) ?hiZ4 (by kernel_rfl) (by kernel_rfl) (by kernel_rfl) ?hQZ4 ?hwZ4 (by assumption) ?restZ4
            case hiZ4 => (simp only [List.getElem?_toArray, List.getElem?_cons_succ, List.getElem?_cons_zero] <;> rfl)
            case hQZ4 => exact (fun _ _ _ h => h)
            case hwZ4 => rfl
            (try simp only [Act.put, List.setIfInBounds_toArray, List.set_cons_zero, List.set_cons_succ])
            refine take_u (i := 4) (oi := ?oZ5) ?hiZ5 (by kernel_rfl) (by kernel_rfl) (by kernel_rfl) ?hQZ5 ?hwZ5 (by assumption) ?restZ5
            case hiZ5 => (simp only [List.getElem?_toArray, List.getElem?_cons_succ, List.getElem?_cons_zero] <;> rfl)
            case hQZ5 => exact (fun _ _ _ h => h)
            case hwZ5 => rfl
            (try simp only [Act.put, List.setIfInBounds_toArray, List.set_cons_zero, List.set_cons_succ])
            refine take_u (i := 5) (oi := ?oZ6) ?hiZ6 (by kernel_rfl) (by kernel_rfl) (by kernel_rfl) ?hQZ6 ?hwZ6 (by assumption) ?restZ6
            case hiZ6 => (simp only [List.getElem?_toArray, List.getElem?_cons_succ, List.getElem?_cons_zero] <;> rfl)
            case hQZ6 => exact (fun _ _ _ h => h)
            case hwZ6 => rfl
            (try simp only [Act.put, List.setIfInBounds_toArray, List.set_cons_zero, List.set_cons_succ])
            refine take_u (i := 6) (oi := ?oZ7) ?hiZ7 (by kernel_rfl) (by kernel_rfl) (by kernel_rfl) ?hQZ7 ?hwZ7 (by assumption) ?restZ7
            case hiZ7 => (simp only [List.getElem?_toArray, List.getElem?_cons_succ, List.getElem?_cons_zero] <;> rfl)
            case hQZ7 => exact (fun _ _ _ h => h)
            case hwZ7 => rfl
            (try simp only [Act.put, List.setIfInBounds_toArray, List.set_cons_zero, List.set_cons_succ])
            refine take_u (i := 7) (oi := ?oZ8) ?hiZ8 (by kernel_rfl) (by kernel_rfl) (by kernel_rfl) ?hQZ8 ?hwZ8 (by assumption) ?restZ8
            case hiZ8 => (simp only [List.getElem?_toArray, List.getElem?_cons_succ, List.getElem?_cons_zero] <;> rfl)
            case hQZ8 => exact (fun _ _ _ h => h)
            case hwZ8 => rfl
            (try simp only [Act.put, List.setIfInBounds_toArray, List.set_cons_zero, List.set_cons_succ])
            refine take_u (i := 8) (oi := ?oZ9) ?hiZ9 (by kernel_rfl) (by kernel_rfl) (by kernel_rfl) ?hQZ9 ?hwZ9 (by assumption) ?restZ9
            case hiZ9 => (simp only [List.getElem?_toArray, List.getElem?_cons_succ, List.getElem?_cons_zero] <;> rfl)
            case hQZ9 => exact (fun _ _ _ h => h)
            case hwZ9 => rfl
            (try simp only [Act.put, List.setIfInBounds_toArray, List.set_cons_zero, List.set_cons_succ])
            refine take_u (i := 9) (oi := ?oZ10) ?hiZ10 (by kernel_rfl) (by kernel_rfl) (by kernel_rfl) ?hQZ10 ?hwZ10 (by assumption) ?restZ10
            case hiZ10 => (simp only [List.getElem?_toArray, List.getElem?_cons_succ, List.getElem?_cons_zero] <;> rfl)
            case hQZ10 => exact (fun _ _ _ h => h)
            case hwZ10 => rfl
            (try simp only [Act.put, List.setIfInBounds_toArray, List.set_cons_zero, List.set_cons_succ])
            refine take_u (i := 10) (oi := ?oZ11) ?hiZ11 (by kernel_rfl) (by kernel_rfl) (by kernel_rfl) ?hQZ11 ?hwZ11 (by assumption) ?restZ11
            case hiZ11 => (simp only [List.getElem?_toArray, List.getElem?_cons_succ, List.getElem?_cons_zero] <;> rfl)
            case hQZ11 => exact (fun _ _ _ h => h)
            case hwZ11 => rfl
            (try simp only [Act.put, List.setIfInBounds_toArray, List.set_cons_zero, List.set_cons_succ])
            refine take_u (i := 11) (oi := ?oZ12) ?hiZ12 (by kernel_rfl) (by kernel_rfl) (by kernel_rfl) ?hQZ12 ?hwZ12 (by assumption) ?restZ12
            case hiZ12 => (simp only [List.getElem?_toArray, List.getElem?_cons_succ, List.getElem?_cons_zero] <;> rfl)
            case hQZ12 => exact (fun _ _ _ h => h)
            case hwZ12 => rfl
            (try simp only [Act.put, List.setIfInBounds_toArray, List.set_cons_zero, List.set_cons_succ])
            refine take_u (i := 12) (oi := ?oZ13) ?hiZ13 (by kernel_rfl) (by kernel_rfl) (by kernel_rfl) ?hQZ13 ?hwZ13 (by assumption) ?restZ13
            case hiZ13 => (simp only [List.getElem?_toArray, List.getElem?_cons_succ, List.getElem?_cons_zero] <;> rfl)
            case hQZ13 => exact (fun _ _ _ h => h)
            case hwZ13 => rfl
            (try simp only [Act.put, List.setIfInBounds_toArray, List.set_cons_zero, List.set_cons_succ])
            refine take_u (i := 13) (oi := ?oZ14) ?hiZ14 (by kernel_rfl) (by kernel_rfl) (by kernel_rfl) ?hQZ14 ?hwZ14 (by assumption) ?restZ14
            case hiZ14 => (simp only [List.getElem?_toArray, List.getElem?_cons_succ, List.getElem?_cons_zero] <;> rfl)
            case hQZ14 => exact (fun _ _ _ h => h)
            case hwZ14 => rfl
            (try simp only [Act.put, List.setIfInBounds_toArray, List.set_cons_zero, List.set_cons_succ])
            refine take_u (i := 14) (oi := ?oZ15) ?hiZ15 (by kernel_rfl) (by kernel_rfl) (by kernel_rfl) ?hQZ15 ?hwZ15 (by assumption) ?restZ15
            case hiZ15 => (simp only [List.getElem?_toArray, List.getElem?_cons_succ, List.getElem?_cons_zero] <;> rfl)
            case hQZ15 => exact (fun _ _ _ h => h)
            case hwZ15 => rfl
            (try simp only [Act.put, List.setIfInBounds_toArray, List.set_cons_zero, List.set_cons_succ])
            refine take_u (i := 15) (oi := ?oZ16) ?hiZ16 (by kernel_rfl) (by kernel_rfl) (by kernel_rfl) ?hQZ16 ?hwZ16 (by assumption) ?restZ16
            case hiZ16 => (simp only [List.getElem?_toArray, List.getElem?_cons_succ, List.getElem?_cons_zero] <;> rfl)
            case hQZ16 => exact (fun _ _ _ h => h)
            case hwZ16 => rfl
            (try simp only [Act.put, List.setIfInBounds_toArray, List.set_cons_zero, List.set_cons_succ])
            refine take_u (i := 16) (oi := ?oZ17) ?hiZ17 (by kernel_rfl) (by kernel_rfl) (by kernel_rfl) ?hQZ17 ?hwZ17 (by assumption) ?restZ17
            case hiZ17 => (simp only [List.getElem?_toArray, List.getElem?_cons_succ, List.getElem?_cons_zero] <;> rfl)
            case hQZ17 => exact (fun _ _ _ h => h)
            case hwZ17 => rfl
            (try simp only [Act.put, List.setIfInBounds_toArray, List.set_cons_zero, List.set_cons_succ])
            refine take_w (i := 17) (oi := ?oZ18) (v := ?vZ18) ?hiZ18 (by kernel_rfl) (by kernel_rfl) (by kernel_rfl) ?hQZ18 ?hwZ18 ?hyZ18 (by assumption) ?restZ18
            case hiZ18 => (simp only [List.getElem?_toArray, List.getElem?_cons_succ, List.getElem?_cons_zero] <;> rfl)
            case hQZ18 => exact (fun _ _ _ h => h)
            case hwZ18 => rfl
            case hyZ18 => (intro w hSw; (try dsimp only at hSw); go_simp; try with_reducible rfl)
            (try simp only [Act.put, List.setIfInBounds_toArray, List.set_cons_zero, List.set_cons_succ])
            refine wpAnyH_done (by kernel_rfl) ?_ _
            clear hHeld
            go_upto_region 12 with fail
            refine wp_region_held_drew (S := (fun W => W.cell? ⟨g, i * 5 + 4, none⟩ = some (.slice (some ⟨g2, off2, none⟩) (hs[i]).tn (hs[i]).tc) ∧ (W.cell? ⟨g2, off2, none⟩ = some (.int .i64 (H 0).k) ∧ W.cell? ⟨g2, off2 + 1, none⟩ = some (.slice (H 0).ka (H 0).kn (H 0).kc) ∧ W.cell? ⟨g2, off2 + 2, none⟩ = some (.slice (H 0).va (H 0).vn (H 0).vc) ∧ W.cell? ⟨g2, off2 + 3, none⟩ = some (.slice (H 0).da (H 0).dn (H 0).dc) ∧ W.cell? ⟨g2, off2 + 4, none⟩ = some (.slice (H 0).ta (H 0).tn (H 0).tc)) ∧ W.cell? ⟨g2, off2 + 5, none⟩ = some (.int .i64 (H 1).k) ∧ W.cell? ⟨g2, off2 + 5 + 1, none⟩ = some (.slice (H 1).ka (H 1).kn (H 1).kc) ∧ W.cell? ⟨g2, off2 + 5 + 2, none⟩ = some (.slice (H 1).va (H 1).vn (H 1).vc) ∧ W.cell? ⟨g2, off2 + 5 + 3, none⟩ = some (.slice (H 1).da (H 1).dn (H 1).dc) ∧ W.cell? ⟨g2, off2 + 5 + 4, none⟩ = some (.slice (H 1).ta (H 1).tn (H 1).tc))) (by kernel_rfl) (KEEP.out _ HL.out.drew.drew) (fun hHeld => ?_)
            refine take_w (i := 0) (oi := ?oZ55) (v := ?vZ55) ?hiZ55 (by kernel_rfl) (by kernel_rfl) (by kernel_rfl) ?hQZ55 ?hwZ55 ?hyZ55 (by assumption) ?restZ55
            case hiZ55 => (simp only [List.getElem?_toArray, List.getElem?_cons_zero] <;> rfl)
            case hQZ55 => exact (fun _ _ _ h => h)
            case hwZ55 => rfl
            case hyZ55 => (intro w hSw; (try dsimp only at hSw); go_simp; try with_reducible rfl)
            (try simp only [Act.put, List.setIfInBounds_toArray, List.set_cons_zero, List.set_cons_succ])
            refine take_w (i := 1) (oi := ?oZ56) (v := ?vZ56) ?hiZ56 (by kernel_rfl) (by kernel_rfl) (by kernel_rfl) ?hQZ56 ?hwZ56 ?hyZ56 (by assumption) ?restZ56
            case hiZ56 => (simp only [List.getElem?_toArray, List.getElem?_cons_succ, List.getElem?_cons_zero] <;> rfl)
            case hQZ56 => exact (fun _ _ _ h => h)
            case hwZ56 => rfl
            case hyZ56 => (intro w hSw; (try dsimp only at hSw); go_simp; try with_reducible rfl)
            (try simp only [Act.put, List.setIfInBounds_toArray, List.set_cons_zero, List.set_cons_succ])
            refine take_w (i := 2) (oi := ?oZ57) (v := ?vZ57) ?hiZ57 (by kernel_rfl) (by kernel_rfl) (by kernel_rfl) ?hQZ57 ?hwZ57 ?hyZ57 (by assumption) ?restZ57
            case hiZ57 => (simp only [List.getElem?_toArray, List.getElem?_cons_succ, List.getElem?_cons_zero] <;> rfl)
            case hQZ57 => exact (fun _ _ _ h => h)
            case hwZ57 => rfl
            case hyZ57 => (intro w hSw; (try dsimp only at hSw); go_simp; try with_reducible rfl)
            (try simp only [Act.put, List.setIfInBounds_toArray, List.set_cons_zero, List.set_cons_succ])
            refine take_w (i := 3) (oi := ?oZ58) (v := ?vZ58) ?hiZ58 (by kernel_rfl) (by kernel_rfl) (by kernel_rfl) ?hQZ58 ?hwZ58 ?hyZ58 (by assumption) ?restZ58
            case hiZ58 => (simp only [List.getElem?_toArray, List.getElem?_cons_succ, List.getElem?_cons_zero] <;> rfl)
            case hQZ58 => exact (fun _ _ _ h => h)
            case hwZ58 => rfl
            case hyZ58 => (intro w hSw; (try dsimp only at hSw); go_simp; try with_reducible rfl)
            (try simp only [Act.put, List.setIfInBounds_toArray, List.set_cons_zero, List.set_cons_succ])
            refine take_w (i := 4) (oi := ?oZ59) (v := ?vZ59) ?hiZ59 (by kernel_rfl) (by kernel_rfl) (by kernel_rfl) ?hQZ59 ?hwZ59 ?hyZ59 (by assumption) ?restZ59
            case hiZ59 => (simp only [List.getElem?_toArray, List.getElem?_cons_succ, List.getElem?_cons_zero] <;> rfl)
            case hQZ59 => exact (fun _ _ _ h => h)
            case hwZ59 => rfl
            case hyZ59 => (intro w hSw; (try dsimp only at hSw); go_simp; try with_reducible rfl)
            (try simp only [Act.put, List.setIfInBounds_toArray, List.set_cons_zero, List.set_cons_succ])
            refine take_w (i := 5) (oi := ?oZ60) (v := ?vZ60) ?hiZ60 (by kernel_rfl) (by kernel_rfl) (by kernel_rfl) ?hQZ60 ?hwZ60 ?hyZ60 (by assumption) ?restZ60
            case hiZ60 => (simp only [List.getElem?_toArray, List.getElem?_cons_succ, List.getElem?_cons_zero] <;> rfl)
            case hQZ60 => exact (fun _ _ _ h => h)
            case hwZ60 => rfl
            case hyZ60 => (intro w hSw; (try dsimp only at hSw); go_simp; try with_reducible rfl)
            (try simp only [Act.put, List.setIfInBounds_toArray, List.set_cons_zero, List.set_cons_succ])
            refine take_w (i := 6) (oi := ?oZ61) (v := ?vZ61) ?hiZ61 (by kernel_rfl) (by kernel_rfl) (by kernel_rfl) ?hQZ61 ?hwZ61 ?hyZ61 (by assumption) ?restZ61
            case hiZ61 => (simp only [List.getElem?_toArray, List.getElem?_cons_succ, List.getElem?_cons_zero] <;> rfl)
            case hQZ61 => exact (fun _ _ _ h => h)
            case hwZ61 => rfl
            case hyZ61 => (intro w hSw; (try dsimp only at hSw); go_simp; try with_reducible rfl)
            (try simp only [Act.put, List.setIfInBounds_toArray, List.set_cons_zero, List.set_cons_succ])
            refine take_w (i := 8) (oi := ?oZ62) (v := ?vZ62) ?hiZ62 (by kernel_rfl) (by kernel_rfl) (by kernel_rfl) ?hQZ62 ?hwZ62 ?hyZ62 (by assumption) ?restZ62
            case hiZ62 => (simp only [List.getElem?_toArray, List.getElem?_cons_succ, List.getElem?_cons_zero] <;> rfl)
            case hQZ62 => exact (fun _ _ _ h => h)
            case hwZ62 => rfl
            case hyZ62 => (intro w hSw; (try dsimp only at hSw); go_simp; try with_reducible rfl)
            (try simp only [Act.put, List.setIfInBounds_toArray, List.set_cons_zero, List.set_cons_succ])
            refine take_w (i := 9) (oi := ?oZ63) (v := ?vZ63) ?hiZ63 (by kernel_rfl) (by kernel_rfl) (by kernel_rfl) ?hQZ63 ?hwZ63 ?hyZ63 (by assumption) ?restZ63
            case hiZ63 => (simp only [List.getElem?_toArray, List.getElem?_cons_succ, List.getElem?_cons_zero] <;> rfl)
            case hQZ63 => exact (fun _ _ _ h => h)
            case hwZ63 => rfl
            case hyZ63 => (intro w hSw; (try dsimp only at hSw); go_simp; try with_reducible rfl)
            (try simp only [Act.put, List.setIfInBounds_toArray, List.set_cons_zero, List.set_cons_succ])
            refine take_w (i := 10) (oi := ?oZ64) (v := ?vZ64) ?hiZ64 (by kernel_rfl) (by kernel_rfl) (by kernel_rfl) ?hQZ64 ?hwZ64 ?hyZ64 (by assumption) ?restZ64
            case hiZ64 => (simp only [List.getElem?_toArray, List.getElem?_cons_succ, List.getElem?_cons_zero] <;> rfl)
            case hQZ64 => exact (fun _ _ _ h => h)
            case hwZ64 => rfl
            case hyZ64 => (intro w hSw; (try dsimp only at hSw); go_simp; try with_reducible rfl)
            (try simp only [Act.put, List.setIfInBounds_toArray, List.set_cons_zero, List.set_cons_succ])
            refine take_w (i := 11) (oi := ?oZ65) (v := ?vZ65) ?hiZ65 (by kernel_rfl) (by kernel_rfl) (by kernel_rfl) ?hQZ65 ?hwZ65 ?hyZ65 (by assumption) ?restZ65
            case hiZ65 => (simp only [List.getElem?_toArray, List.getElem?_cons_succ, List.getElem?_cons_zero] <;> rfl)
            case hQZ65 => exact (fun _ _ _ h => h)
            case hwZ65 => rfl
            case hyZ65 => (intro w hSw; (try dsimp only at hSw); go_simp; try with_reducible rfl)
            (try simp only [Act.put, List.setIfInBounds_toArray, List.set_cons_zero, List.set_cons_succ])
            refine take_w (i := 12) (oi := ?oZ66) (v := ?vZ66) ?hiZ66 (by kernel_rfl) (by kernel_rfl) (by kernel_rfl) ?hQZ66 ?hwZ66 ?hyZ66 (by assumption) ?restZ66
            case hiZ66 => (simp only [List.getElem?_toArray, List.getElem?_cons_succ, List.getElem?_cons_zero] <;> rfl)
            case hQZ66 => exact (fun _ _ _ h => h)
            case hwZ66 => rfl
            case hyZ66 => (intro w hSw; (try dsimp only at hSw); go_simp; try with_reducible rfl)
            (try simp only [Act.put, List.setIfInBounds_toArray, List.set_cons_zero, List.set_cons_succ])
            refine take_w (i := 13) (oi := ?oZ67) (v := ?vZ67) ?hiZ67 (by kernel_rfl) (by kernel_rfl) (by kernel_rfl) ?hQZ67 ?hwZ67 ?hyZ67 (by assumption) ?restZ67
            case hiZ67 => (simp only [List.getElem?_toArray, List.getElem?_cons_succ, List.getElem?_cons_zero] <;> rfl)
            case hQZ67 => exact (fun _ _ _ h => h)
            case hwZ67 => rfl
            case hyZ67 => (intro w hSw; (try dsimp only at hSw); go_simp; try with_reducible rfl)
            (try simp only [Act.put, List.setIfInBounds_toArray, List.set_cons_zero, List.set_cons_succ])
            refine take_w (i := 14) (oi := ?oZ68) (v := ?vZ68) ?hiZ68 (by kernel_rfl) (by kernel_rfl) (by kernel_rfl) ?hQZ68 ?hwZ68 ?hyZ68 (by assumption) ?restZ68
            case hiZ68 => (simp only [List.getElem?_toArray, List.getElem?_cons_succ, List.getElem?_cons_zero] <;> rfl)
            case hQZ68 => exact (fun _ _ _ h => h)
            case hwZ68 => rfl
            case hyZ68 => (intro w hSw; (try dsimp only at hSw); go_simp; try with_reducible rfl)
            (try simp only [Act.put, List.setIfInBounds_toArray, List.set_cons_zero, List.set_cons_succ])
            refine wpAnyH_ready (rs := [7]) (by kernel_rfl) (by simp) ?_
            refine AllReadyH.cons (o := ?oZ69) ?hiZ69 (fun K hK => ?stZ69) AllReadyH.nil
            case hiZ69 => (simp only [List.getElem?_toArray, List.getElem?_cons_succ, List.getElem?_cons_zero] <;> rfl)
            go_simp
            go_at_call 32
            refine (refDepth_any l.tr (H 0) 64 _ (HL.out.drew.drew.p.kids 0 (by rw [AT.tr_kids]; simp)) ?_ ?_ (by omega) (by omega)).mono ?_
            · exact HLD.out.1.1
            · exact HLD.out.1.2
            rintro _ w5 ⟨rfl, hb5⟩
            have HL5 := Lib.hid (HL.out.drew.drew.below hb5)
            rw [AT.tr_depth]
            clear hb5
            go_simp
            refine hK.out _ _ ?_ (fun hHeld => ?_)
            · (first | exact KEEP.out _ HL6.out | exact KEEP.out _ HL5.out | exact KEEP.out _ HL.out.drew.drew)
            clear hK K
            (try simp only [Act.put, List.setIfInBounds_toArray, List.set_cons_zero, List.set_cons_succ])
            refine wpAnyH_ready (rs := [15]) (by kernel_rfl) (by simp) ?_
            refine AllReadyH.cons (o := ?oZ70) ?hiZ70 (fun K hK => ?stZ70) AllReadyH.nil
            case hiZ70 => (simp only [List.getElem?_toArray, List.getElem?_cons_succ, List.getElem?_cons_zero] <;> rfl)
            go_simp
            go_at_call 32
            refine (refDepth_any r.tr (H 1) 64 _ (HL5.out.p.kids 1 (by rw [AT.tr_kids]; simp)) ?_ ?_ (by omega) (by omega)).mono ?_
            · exact HLD.out.2.1
            · exact HLD.out.2.2
            rintro _ w6 ⟨rfl, hb6⟩
            have HL6 := Lib.hid (HL5.out.below hb6)
            rw [AT.tr_depth]
            clear hb6
            go_simp
            refine hK.out _ _ ?_ (fun hHeld => ?_)
            · (first | exact KEEP.out _ HL6.out | exact KEEP.out _ HL5.out | exact KEEP.out _ HL.out.drew.drew)
            clear hK K
            (try simp only [Act.put, List.setIfInBounds_toArray, List.set_cons_zero, List.set_cons_succ])
            refine take_w (i := 16) (oi := ?oZ71) (v := ?vZ71) ?hiZ71 (by kernel_rfl) (by kernel_rfl) (by kernel_rfl) ?hQZ71 ?hwZ71 ?hyZ71 (by assumption) ?restZ71
            case hiZ71 => (simp only [List.getElem?_toArray, List.getElem?_cons_succ, List.getElem?_cons_zero] <;> rfl)
            case hQZ71 => exact (fun _ _ _ h => h)
            case hwZ71 => rfl
            case hyZ71 => (intro w hSw; (try dsimp only at hSw); go_simp; try with_reducible rfl)
            (try simp only [Act.put, List.setIfInBounds_toArray, List.set_cons_zero, List.set_cons_succ])
            refine take_w (i := 17) (oi := ?oZ72) (v := ?vZ72) ?hiZ72 (by kernel_rfl) (by kernel_rfl) (by kernel_rfl) ?hQZ72 ?hwZ72 ?hyZ72 (by assumption) ?restZ72
            case hiZ72 => (simp only [List.getElem?_toArray, List.getElem?_cons_succ, List.getElem?_cons_zero] <;> rfl)
            case hQZ72 => exact (fun _ _ _ h => h)
            case hwZ72 => rfl
            case hyZ72 => (intro w hSw; (try dsimp only at hSw); go_simp; try with_reducible rfl)
            (try simp only [Act.put, List.setIfInBounds_toArray, List.set_cons_zero, List.set_cons_succ])
            refine wpAnyH_done (by kernel_rfl) ?_ _
            clear hHeld
            by_cases c1 : (1 : Int) < (l.depth : Int) - (r.depth : Int)
            · have d1 : decide ((l.depth : Int) - (r.depth : Int) ≤ 1) = false := decide_eq_false (by omega)
              have HD1 := Lib.hid d1
              clear d1
              go_wp2_with fail
              go_ret
              refine ⟨?_, HL6.out.s.b⟩
              rw [HE.out, levelB_no him2 (by rw [HCD.out, HD1.out]; rfl)]
              rfl
            · by_cases c2 : (l.depth : Int) - (r.depth : Int) < -1
              · have d1 : decide (-1 ≤ (l.depth : Int) - (r.depth : Int)) = false := decide_eq_false (by omega)
                have HD1 := Lib.hid (And.intro d1 (decide_eq_true (show (l.depth : Int) - (r.depth : Int) ≤ 1 by omega)))
                clear d1
                go_wp2_with fail
                go_ret
                refine ⟨?_, HL6.out.s.b⟩
                rw [HE.out, levelB_no him2 (by rw [HCD.out, HD1.out.2, HD1.out.1]; rfl)]
                rfl
              · have d1 : decide ((l.depth : Int) - (r.depth : Int) ≤ 1) = true := decide_eq_true (by omega)
                have d2 : decide (-1 ≤ (l.depth : Int) - (r.depth : Int)) = true := decide_eq_true (by omega)
                have HD1 := Lib.hid (all_step HALL.out (by rw [HCD.out, d1, d2]; rfl))
                clear d1 d2
                go_wp2_with fail
                exact ⟨⟨i + 1, by omega, by go_num, HL6.out.s, HD1.out⟩, by simp [intOf]; omega⟩
          · obtain ⟨j, hj⟩ : ∃ j, i = j + 1 := ⟨i - 1, by omega⟩
            have hjm : j < hs.length := by omega
            have hjm2 : j < (listT a.tr).length := by omega
            obtain ⟨l', k', v', r', e1', e2', -, -⟩ := AT.node_at a j hjm2
            have hcnd := condL_succ (by rw [← hj]; exact HE2.out) e2'
            rw [← hj] at hcnd
            have HCD := Lib.hid hcnd
            have hjj : (i : Int) - 1 = (j : Int) := by omega
            have q2 : 0 < i := by omega
            have hjn : (j : Int) < (n : Int) := by omega
            have hwj : IntKind.i64.wrap (j : Int) = (j : Int) := by rw [IntKind.wrap_i64]; omega
            have hkb := (HL.out.s.key i him him2 HE1.out).1
            have hkb' := (HL.out.s.key j hjm hjm2 e1').1
            have hlx : Op.bytesLess (strOfNums k').toList (strOfNums k).toList = ltL k' k := str_lt hkb'.bytes hkb.bytes
            have HS10 : Hid ((fun W => W.cell? ⟨g, j * 5 + 1, none⟩ = some (.slice (hs[j]).ka (hs[j]).kn (hs[j]).kc) ∧ W.cell? ⟨g, i * 5 + 1, none⟩ = some (.slice (hs[i]).ka (hs[i]).kn (hs[i]).kc) ∧ (convert 22 9 (.slice (hs[j]).ka (hs[j]).kn (hs[j]).kc)).run Try.prog W = .ok (.string (strOfNums k')) W ∧ (convert 22 9 (.slice (hs[i]).ka (hs[i]).kn (hs[i]).kc)).run Try.prog W = .ok (.string (strOfNums k)) W) wr.drew) := Lib.hid ⟨(HL.out.drew.s.cells hhl j hjm).2.1, (HL.out.drew.s.cells hhl i him).2.1, conv_key (HL.out.drew.s.key j hjm hjm2 e1').1, conv_key (HL.out.drew.s.key i him him2 HE1.out).1⟩
            clear hcnd hkb hkb' e1' e2' hj hpos
            cases hcl : ltL k' k with
            | false =>
              have HCL := Lib.hid hcl
              rw [hcl] at hlx
              clear hcl
              go_upto_region 10 with fail
              refine wp_region_held_drew (S := (fun W => W.cell? ⟨g, j * 5 + 1, none⟩ = some (.slice (hs[j]).ka (hs[j]).kn (hs[j]).kc) ∧ W.cell? ⟨g, i * 5 + 1, none⟩ = some (.slice (hs[i]).ka (hs[i]).kn (hs[i]).kc) ∧ (convert 22 9 (.slice (hs[j]).ka (hs[j]).kn (hs[j]).kc)).run Try.prog W = .ok (.string (strOfNums k')) W ∧ (convert 22 9 (.slice (hs[i]).ka (hs[i]).kn (hs[i]).kc)).run Try.prog W = .ok (.string (strOfNums k)) W)) (by kernel_rfl) HS10.out (fun hHeld => ?_)
              refine take_w (i := 0) (oi := ?oZ19) (v := ?vZ19) ?hiZ19 (by kernel_rfl) (by kernel_rfl) (by kernel_rfl) ?hQZ19 ?hwZ19 ?hyZ19 (by assumption) ?restZ19
              case hiZ19 => (simp only [List.getElem?_toArray, List.getElem?_cons_zero] <;> rfl)
              case hQZ19 => exact (fun _ _ _ h => h)
              case hwZ19 => rfl
              case hyZ19 => (intro w hSw; (try dsimp only at hSw); go_simp; try with_reducible rfl)
              (try simp only [Act.put, List.setIfInBounds_toArray, List.set_cons_zero, List.set_cons_succ])
              refine take_w (i := 1) (oi := ?oZ20) (v := ?vZ20) ?hiZ20 (by kernel_rfl) (by kernel_rfl) (by kernel_rfl) ?hQZ20 ?hwZ20 ?hyZ20 (by assumption) ?restZ20
              case hiZ20 => (simp only [List.getElem?_toArray, List.getElem?_cons_succ, List.getElem?_cons_zero] <;> rfl)
              case hQZ20 => exact (fun _ _ _ h => h)
              case hwZ20 => rfl
              case hyZ20 => (intro w hSw; (try dsimp only at hSw); go_simp; try with_reducible rfl)
              (try simp only [Act.put, List.setIfInBounds_toArray, List.set_cons_zero, List.set_cons_succ])
              refine take_w (i := 2) (oi := ?oZ21) (v := ?vZ21) ?hiZ21 (by kernel_rfl) (by kernel_rfl) (by kernel_rfl) ?hQZ21 ?hwZ21 ?hyZ21 (by assumption) ?restZ21
              case hiZ21 => (simp only [List.getElem?_toArray, List.getElem?_cons_succ, List.getElem?_cons_zero] <;> rfl)
              case hQZ21 => exact (fun _ _ _ h => h)
              case hwZ21 => rfl
              case hyZ21 => (intro w hSw; (try dsimp only at hSw); go_simp; try with_reducible rfl)
              (try simp only [Act.put, List.setIfInBounds_toArray, List.set_cons_zero, List.set_cons_succ])
              refine take_w (i := 3) (oi := ?oZ22) (v := ?vZ22) ?hiZ22 (by kernel_rfl) (by kernel_rfl) (by kernel_rfl) ?hQZ22 ?hwZ22 ?hyZ22 (by assumption) ?restZ22
              case hiZ22 => (simp only [List.getElem?_toArray, List.getElem?_cons_succ, List.getElem?_cons_zero] <;> rfl)
              case hQZ22 => exact (fun _ _ _ h => h)
              case hwZ22 => rfl
              case hyZ22 => (intro w hSw; (try dsimp only at hSw); go_simp; try with_reducible rfl)
              (try simp only [Act.put, List.setIfInBounds_toArray, List.set_cons_zero, List.set_cons_succ])
              refine take_w (i := 4) (oi := ?oZ23) (v := ?vZ23) ?hiZ23 (by kernel_rfl) (by kernel_rfl) (by kernel_rfl) ?hQZ23 ?hwZ23 ?hyZ23 (by assumption) ?restZ23
              case hiZ23 => (simp only [List.getElem?_toArray, List.getElem?_cons_succ, List.getElem?_cons_zero] <;> rfl)
              case hQZ23 => exact (fun _ _ _ h => h)
              case hwZ23 => rfl
              case hyZ23 => (intro w hSw; (try dsimp only at hSw); go_simp; try with_reducible rfl)
              (try simp only [Act.put, List.setIfInBounds_toArray, List.set_cons_zero, List.set_cons_succ])
              refine take_w (i := 5) (oi := ?oZ24) (v := ?vZ24) ?hiZ24 (by kernel_rfl) (by kernel_rfl) (by kernel_rfl) ?hQZ24 ?hwZ24 ?hyZ24 (by assumption) ?restZ24
              case hiZ24 => (simp only [List.getElem?_toArray, List.getElem?_cons_succ, List.getElem?_cons_zero] <;> rfl)
              case hQZ24 => exact (fun _ _ _ h => h)
              case hwZ24 => rfl
              case hyZ24 => (intro w hSw; (try dsimp only at hSw); go_simp; try with_reducible rfl)
              (try simp only [Act.put, List.setIfInBounds_toArray, List.set_cons_zero, List.set_cons_succ])
              refine take_w (i := 6) (oi := ?oZ25) (v := ?vZ25) ?hiZ25 (by kernel_rfl) (by kernel_rfl) (by kernel_rfl) ?hQZ25 ?hwZ25 ?hyZ25 (by assumption) ?restZ25
              case hiZ25 => (simp only [List.getElem?_toArray, List.getElem?_cons_succ, List.getElem?_cons_zero] <;> rfl)
              case hQZ25 => exact (fun _ _ _ h => h)
              case hwZ25 => rfl
              case hyZ25 => (intro w hSw; (try dsimp only at hSw); go_simp; try with_reducible rfl)
              (try simp only [Act.put, List.setIfInBounds_toArray, List.set_cons_zero, List.set_cons_succ])
              refine take_w (i := 7) (oi := ?oZ26) (v := ?vZ26) ?hiZ26 (by kernel_rfl) (by kernel_rfl) (by kernel_rfl) ?hQZ26 ?hwZ26 ?hyZ26 (by assumption) ?restZ26
              case hiZ26 => (simp only [List.getElem?_toArray, List.getElem?_cons_succ, List.getElem?_cons_zero] <;> rfl)
              case hQZ26 => exact (fun _ _ _ h => h)
              case hwZ26 => rfl
              case hyZ26 => (intro w hSw; (try dsimp only at hSw); go_simp; try with_reducible rfl)
              (try simp only [Act.put, List.setIfInBounds_toArray, List.set_cons_zero, List.set_cons_succ])
              refine take_w (i := 8) (oi := ?oZ27) (v := ?vZ27) ?hiZ27 (by kernel_rfl) (by kernel_rfl) (by kernel_rfl) ?hQZ27 ?hwZ27 ?hyZ27 (by assumption) ?restZ27
              case hiZ27 => (simp only [List.getElem?_toArray, List.getElem?_cons_succ, List.getElem?_cons_zero] <;> rfl)
              case hQZ27 => exact (fun _ _ _ h => h)
              case hwZ27 => rfl
              case hyZ27 => (intro w hSw; (try dsimp only at hSw); go_simp; try with_reducible rfl)
              (try simp only [Act.put, List.setIfInBounds_toArray, List.set_cons_zero, List.set_cons_succ])
              refine take_w (i := 9) (oi := ?oZ28) (v := ?vZ28) ?hiZ28 (by kernel_rfl) (by kernel_rfl) (by kernel_rfl) ?hQZ28 ?hwZ28 ?hyZ28 (by assumption) ?restZ28
              case hiZ28 => (simp only [List.getElem?_toArray, List.getElem?_cons_succ, List.getElem?_cons_zero] <;> rfl)
              case hQZ28 => exact (fun _ _ _ h => h)
              case hwZ28 => rfl
              case hyZ28 => (intro w hSw; (try dsimp only at hSw); go_simp; try with_reducible rfl)
              (try simp only [Act.put, List.setIfInBounds_toArray, List.set_cons_zero, List.set_cons_succ])
              refine take_w (i := 10) (oi := ?oZ29) (v := ?vZ29) ?hiZ29 (by kernel_rfl) (by kernel_rfl) (by kernel_rfl) ?hQZ29 ?hwZ29 ?hyZ29 (by assumption) ?restZ29
              case hiZ29 => (simp only [List.getElem?_toArray, List.getElem?_cons_succ, List.getElem?_cons_zero] <;> rfl)
              case hQZ29 => exact (fun _ _ _ h => h)
              case hwZ29 => rfl
              case hyZ29 => (intro w hSw; (try dsimp only at hSw); go_simp; try with_reducible rfl)
              (try simp only [Act.put, List.setIfInBounds_toArray, List.set_cons_zero, List.set_cons_succ])
              refine take_w (i := 11) (oi := ?oZ30) (v := ?vZ30) ?hiZ30 (by kernel_rfl) (by kernel_rfl) (by kernel_rfl) ?hQZ30 ?hwZ30 ?hyZ30 (by assumption) ?restZ30
              case hiZ30 => (simp only [List.getElem?_toArray, List.getElem?_cons_succ, List.getElem?_cons_zero] <;> rfl)
              case hQZ30 => exact (fun _ _ _ h => h)
              case hwZ30 => rfl
              case hyZ30 => (intro w hSw; (try dsimp only at hSw); go_simp; try with_reducible rfl)
              (try simp only [Act.put, List.setIfInBounds_toArray, List.set_cons_zero, List.set_cons_succ])
              refine take_w (i := 12) (oi := ?oZ31) (v := ?vZ31) ?hiZ31 (by kernel_rfl) (by kernel_rfl) (by kernel_rfl) ?hQZ31 ?hwZ31 ?hyZ31 (by assumption) ?restZ31
              case hiZ31 => (simp only [List.getElem?_toArray, List.getElem?_cons_succ, List.getElem?_cons_zero] <;> rfl)
              case hQZ31 => exact (fun _ _ _ h => h)
              case hwZ31 => rfl
              case hyZ31 => (intro w hSw; (try dsimp only at hSw); go_simp; try with_reducible rfl)
              (try simp only [Act.put, List.setIfInBounds_toArray, List.set_cons_zero, List.set_cons_succ])
              refine take_w (i := 13) (oi := ?oZ32) (v := ?vZ32) ?hiZ32 (by kernel_rfl) (by kernel_rfl) (by kernel_rfl) ?hQZ32 ?hwZ32 ?hyZ32 (by assumption) ?restZ32
              case hiZ32 => (simp only [List.getElem?_toArray, List.getElem?_cons_succ, List.getElem?_cons_zero] <;> rfl)
              case hQZ32 => exact (fun _ _ _ h => h)
              case hwZ32 => rfl
              case hyZ32 => (intro w hSw; (try dsimp only at hSw); go_simp; try with_reducible rfl)
              (try simp only [Act.put, List.setIfInBounds_toArray, List.set_cons_zero, List.set_cons_succ])
              refine take_w (i := 14) (oi := ?oZ33) (v := ?vZ33) ?hiZ33 (by kernel_rfl) (by kernel_rfl) (by kernel_rfl) ?hQZ33 ?hwZ33 ?hyZ33 (by assumption) ?restZ33
              case hiZ33 => (simp only [List.getElem?_toArray, List.getElem?_cons_succ, List.getElem?_cons_zero] <;> rfl)
              case hQZ33 => exact (fun _ _ _ h => h)
              case hwZ33 => rfl
              case hyZ33 => (intro w hSw; (try dsimp only at hSw); go_simp; try with_reducible rfl)
              (try simp only [Act.put, List.setIfInBounds_toArray, List.set_cons_zero, List.set_cons_succ])
              refine take_w (i := 15) (oi := ?oZ34) (v := ?vZ34) ?hiZ34 (by kernel_rfl) (by kernel_rfl) (by kernel_rfl) ?hQZ34 ?hwZ34 ?hyZ34 (by assumption) ?restZ34
              case hiZ34 => (simp only [List.getElem?_toArray, List.getElem?_cons_succ, List.getElem?_cons_zero] <;> rfl)
              case hQZ34 => exact (fun _ _ _ h => h)
              case hwZ34 => rfl
              case hyZ34 => (intro w hSw; (try dsimp only at hSw); go_simp; try with_reducible rfl)
              (try simp only [Act.put, List.setIfInBounds_toArray, List.set_cons_zero, List.set_cons_succ])
              refine take_w (i := 16) (oi := ?oZ35) (v := ?vZ35) ?hiZ35 (by kernel_rfl) (by kernel_rfl) (by kernel_rfl) ?hQZ35 ?hwZ35 ?hyZ35 (by assumption) ?restZ35
              case hiZ35 => (simp only [List.getElem?_toArray, List.getElem?_cons_succ, List.getElem?_cons_zero] <;> rfl)
              case hQZ35 => exact (fun _ _ _ h => h)
              case hwZ35 => rfl
              case hyZ35 => (intro w hSw; (try dsimp only at hSw); go_simp; try with_reducible rfl)
              (try simp only [Act.put, List.setIfInBounds_toArray, List.set_cons_zero, List.set_cons_succ])
              refine take_w (i := 17) (oi := ?oZ36) (v := ?vZ36) ?hiZ36 (by kernel_rfl) (by kernel_rfl) (by kernel_rfl) ?hQZ36 ?hwZ36 ?hyZ36 (by assumption) ?restZ36
              case hiZ36 => (simp only [List.getElem?_toArray, List.getElem?_cons_succ, List.getElem?_cons_zero] <;> rfl)
              case hQZ36 => exact (fun _ _ _ h => h)
              case hwZ36 => rfl
              case hyZ36 => (intro w hSw; (try dsimp only at hSw); go_simp; try with_reducible rfl)
              (try simp only [Act.put, List.setIfInBounds_toArray, List.set_cons_zero, List.set_cons_succ])
              refine wpAnyH_done (by kernel_rfl) ?_ _
              clear hHeld
              clear HS10
              go_wp2_with fail
              go_ret
              refine ⟨?_, HL.out.drew.s.b⟩
              rw [HE.out, levelB_no him2 (by rw [HCD.out, HCL.out]; rfl)]
              rfl
            | true =>
              have HCL := Lib.hid hcl
              rw [hcl] at hlx
              clear hcl
              go_upto_region 10 with fail
              refine wp_region_held_drew (S := (fun W => W.cell? ⟨g, j * 5 + 1, none⟩ = some (.slice (hs[j]).ka (hs[j]).kn (hs[j]).kc) ∧ W.cell? ⟨g, i * 5 + 1, none⟩ = some (.slice (hs[i]).ka (hs[i]).kn (hs[i]).kc) ∧ (convert 22 9 (.slice (hs[j]).ka (hs[j]).kn (hs[j]).kc)).run Try.prog W = .ok (.string (strOfNums k')) W ∧ (convert 22 9 (.slice (hs[i]).ka (hs[i]).kn (hs[i]).kc)).run Try.prog W = .ok (.string (strOfNums k)) W)) (by kernel_rfl) HS10.out (fun hHeld => ?_)
              refine take_w (i := 0) (oi := ?oZ37) (v := ?vZ37) ?hiZ37 (by kernel_rfl) (by kernel_rfl) (by kernel_rfl) ?hQZ37 ?hwZ37 ?hyZ37 (by assumption) ?restZ37
              case hiZ37 => (simp only [List.getElem?_toArray, List.getElem?_cons_zero] <;> rfl)
              case hQZ37 => exact (fun _ _ _ h => h)
              case hwZ37 => rfl
              case hyZ37 => (intro w hSw; (try dsimp only at hSw); go_simp; try with_reducible rfl)
              (try simp only [Act.put, List.setIfInBounds_toArray, List.set_cons_zero, List.set_cons_succ])
              refine take_w (i := 1) (oi := ?oZ38) (v := ?vZ38) ?hiZ38 (by kernel_rfl) (by kernel_rfl) (by kernel_rfl) ?hQZ38 ?hwZ38 ?hyZ38 (by assumption) ?restZ38
              case hiZ38 => (simp only [List.getElem?_toArray, List.getElem?_cons_succ, List.getElem?_cons_zero] <;> rfl)
              case hQZ38 => exact (fun _ _ _ h => h)
              case hwZ38 => rfl
              case hyZ38 => (intro w hSw; (try dsimp only at hSw); go_simp; try with_reducible rfl)
              (try simp only [Act.put, List.setIfInBounds_toArray, List.set_cons_zero, List.set_cons_succ])
              refine take_w (i := 2) (oi := ?oZ39) (v := ?vZ39) ?hiZ39 (by kernel_rfl) (by kernel_rfl) (by kernel_rfl) ?hQZ39 ?hwZ39 ?hyZ39 (by assumption) ?restZ39
              case hiZ39 => (simp only [List.getElem?_toArray, List.getElem?_cons_succ, List.getElem?_cons_zero] <;> rfl)
              case hQZ39 => exact (fun _ _ _ h => h)
              case hwZ39 => rfl
              case hyZ39 => (intro w hSw; (try dsimp only at hSw); go_simp; try with_reducible rfl)
              (try simp only [Act.put, List.setIfInBounds_toArray, List.set_cons_zero, List.set_cons_succ])
              refine take_w (i := 3) (oi := ?oZ40) (v := ?vZ40) ?hiZ40 (by kernel_rfl) (by kernel_rfl) (by kernel_rfl) ?hQZ40 ?hwZ40 ?hyZ40 (by assumption) ?restZ40
              case hiZ40 => (simp only [List.getElem?_toArray, List.getElem?_cons_succ, List.getElem?_cons_zero] <;> rfl)
              case hQZ40 => exact (fun _ _ _ h => h)
              case hwZ40 => rfl
              case hyZ40 => (intro w hSw; (try dsimp only at hSw); go_simp; try with_reducible rfl)
              (try simp only [Act.put, List.setIfInBounds_toArray, List.set_cons_zero, List.set_cons_succ])
              refine take_w (i := 4) (oi := ?oZ41) (v := ?vZ41) ?hiZ41 (by kernel_rfl) (by kernel_rfl) (by kernel_rfl) ?hQZ41 ?hwZ41 ?hyZ41 (by assumption) ?restZ41
              case hiZ41 => (simp only [List.getElem?_toArray, List.getElem?_cons_succ, List.getElem?_cons_zero] <;> rfl)
              case hQZ41 => exact (fun _ _ _ h => h)
              case hwZ41 => rfl
              case hyZ41 => (intro w hSw; (try dsimp only at hSw); go_simp; try with_reducible rfl)
              (try simp only [Act.put, List.setIfInBounds_toArray, List.set_cons_zero, List.set_cons_succ])
              refine take_w (i := 5) (oi := ?oZ42) (v := ?vZ42) ?hiZ42 (by kernel_rfl) (by kernel_rfl) (by kernel_rfl) ?hQZ42 ?hwZ42 ?hyZ42 (by assumption) ?restZ42
              case hiZ42 => (simp only [List.getElem?_toArray, List.getElem?_cons_succ, List.getElem?_cons_zero] <;> rfl)
              case hQZ42 => exact (fun _ _ _ h => h)
              case hwZ42 => rfl
              case hyZ42 => (intro w hSw; (try dsimp only at hSw); go_simp; try with_reducible rfl)
              (try simp only [Act.put, List.setIfInBounds_toArray, List.set_cons_zero, List.set_cons_succ])
              refine take_w (i := 6) (oi := ?oZ43) (v := ?vZ43) ?hiZ43 (by kernel_rfl) (by kernel_rfl) (by kernel_rfl) ?hQZ43 ?hwZ43 ?hyZ43 (by assumption) ?restZ43
              case hiZ43 => (simp only [List.getElem?_toArray, List.getElem?_cons_succ, List.getElem?_cons_zero] <;> rfl)
              case hQZ43 => exact (fun _ _ _ h => h)
              case hwZ43 => rfl
              case hyZ43 => (intro w hSw; (try dsimp only at hSw); go_simp; try with_reducible rfl)
              (try simp only [Act.put, List.setIfInBounds_toArray, List.set_cons_zero, List.set_cons_succ])
              refine take_w (i := 7) (oi := ?oZ44) (v := ?vZ44) ?hiZ44 (by kernel_rfl) (by kernel_rfl) (by kernel_rfl) ?hQZ44 ?hwZ44 ?hyZ44 (by assumption) ?restZ44
              case hiZ44 => (simp only [List.getElem?_toArray, List.getElem?_cons_succ, List.getElem?_cons_zero] <;> rfl)
              case hQZ44 => exact (fun _ _ _ h => h)
              case hwZ44 => rfl
              case hyZ44 => (intro w hSw; (try dsimp only at hSw); go_simp; try with_reducible rfl)
              (try simp only [Act.put, List.setIfInBounds_toArray, List.set_cons_zero, List.set_cons_succ])
              refine take_w (i := 8) (oi := ?oZ45) (v := ?vZ45) ?hiZ45 (by kernel_rfl) (by kernel_rfl) (by kernel_rfl) ?hQZ45 ?hwZ45 ?hyZ45 (by assumption) ?restZ45
              case hiZ45 => (simp only [List.getElem?_toArray, List.getElem?_cons_succ, List.getElem?_cons_zero] <;> rfl)
              case hQZ45 => exact (fun _ _ _ h => h)
              case hwZ45 => rfl
              case hyZ45 => (intro w hSw; (try dsimp only at hSw); go_simp; try with_reducible rfl)
              (try simp only [Act.put, List.setIfInBounds_toArray, List.set_cons_zero, List.set_cons_succ])
              refine take_w (i := 9) (oi := ?oZ46) (v := ?vZ46) ?hiZ46 (by kernel_rfl) (by kernel_rfl) (by kernel_rfl) ?hQZ46 ?hwZ46 ?hyZ46 (by assumption) ?restZ46
              case hiZ46 => (simp only [List.getElem?_toArray, List.getElem?_cons_succ, List.getElem?_cons_zero] <;> rfl)
              case hQZ46 => exact (fun _ _ _ h => h)
              case hwZ46 => rfl
              case hyZ46 => (intro w hSw; (try dsimp only at hSw); go_simp; try with_reducible rfl)
              (try simp only [Act.put, List.setIfInBounds_toArray, List.set_cons_zero, List.set_cons_succ])
              refine take_w (i := 10) (oi := ?oZ47) (v := ?vZ47) ?hiZ47 (by kernel_rfl) (by kernel_rfl) (by kernel_rfl) ?hQZ47 ?hwZ47 ?hyZ47 (by assumption) ?restZ47
              case hiZ47 => (simp only [List.getElem?_toArray, List.getElem?_cons_succ, List.getElem?_cons_zero] <;> rfl)
              case hQZ47 => exact (fun _ _ _ h => h)
              case hwZ47 => rfl
              case hyZ47 => (intro w hSw; (try dsimp only at hSw); go_simp; try with_reducible rfl)
              (try simp only [Act.put, List.setIfInBounds_toArray, List.set_cons_zero, List.set_cons_succ])
              refine take_w (i := 11) (oi := ?oZ48) (v := ?vZ48) ?hiZ48 (by kernel_rfl) (by kernel_rfl) (by kernel_rfl) ?hQZ48 ?hwZ48 ?hyZ48 (by assumption) ?restZ48
              case hiZ48 => (simp only [List.getElem?_toArray, List.getElem?_cons_succ, List.getElem?_cons_zero] <;> rfl)
              case hQZ48 => exact (fun _ _ _ h => h)
              case hwZ48 => rfl
              case hyZ48 => (intro w hSw; (try dsimp only at hSw); go_simp; try with_reducible rfl)
              (try simp only [Act.put, List.setIfInBounds_toArray, List.set_cons_zero, List.set_cons_succ])
              refine take_w (i := 12) (oi := ?oZ49) (v := ?vZ49) ?hiZ49 (by kernel_rfl) (by kernel_rfl) (by kernel_rfl) ?hQZ49 ?hwZ49 ?hyZ49 (by assumption) ?restZ49
              case hiZ49 => (simp only [List.getElem?_toArray, List.getElem?_cons_succ, List.getElem?_cons_zero] <;> rfl)
              case hQZ49 => exact (fun _ _ _ h => h)
              case hwZ49 => rfl
              case hyZ49 => (intro w hSw; (try dsimp only at hSw); go_simp; try with_reducible rfl)
              (try simp only [Act.put, List.setIfInBounds_toArray, List.set_cons_zero, List.set_cons_succ])
              refine take_w (i := 13) (oi := ?oZ50) (v := ?vZ50) ?hiZ50 (by kernel_rfl) (by kernel_rfl) (by kernel_rfl) ?hQZ50 ?hwZ50 ?hyZ50 (by assumption) ?restZ50
              case hiZ50 => (simp only [List.getElem?_toArray, List.getElem?_cons_succ, List.getElem?_cons_zero] <;> rfl)
              case hQZ50 => exact (fun _ _ _ h => h)
              case hwZ50 => rfl
              case hyZ50 => (intro w hSw; (try dsimp only at hSw); go_simp; try with_reducible rfl)
              (try simp only [Act.put, List.setIfInBounds_toArray, List.set_cons_zero, List.set_cons_succ])
              refine take_w (i := 14) (oi := ?oZ51) (v := ?vZ51) ?hiZ51 (by kernel_rfl) (by kernel_rfl) (by kernel_rfl) ?hQZ51 ?hwZ51 ?hyZ51 (by assumption) ?restZ51
              case hiZ51 => (simp only [List.getElem?_toArray, List.getElem?_cons_succ, List.getElem?_cons_zero] <;> rfl)
              case hQZ51 => exact (fun _ _ _ h => h)
              case hwZ51 => rfl
              case hyZ51 => (intro w hSw; (try dsimp only at hSw); go_simp; try with_reducible rfl)
              (try simp only [Act.put, List.setIfInBounds_toArray, List.set_cons_zero, List.set_cons_succ])
              refine take_w (i := 15) (oi := ?oZ52) (v := ?vZ52) ?hiZ52 (by kernel_rfl) (by kernel_rfl) (by kernel_rfl) ?hQZ52 ?hwZ52 ?hyZ52 (by assumption) ?restZ52
              case hiZ52 => (simp only [List.getElem?_toArray, List.getElem?_cons_succ, List.getElem?_cons_zero] <;> rfl)
              case hQZ52 => exact (fun _ _ _ h => h)
              case hwZ52 => rfl
              case hyZ52 => (intro w hSw; (try dsimp only at hSw); go_simp; try with_reducible rfl)
              (try simp only [Act.put, List.setIfInBounds_toArray, List.set_cons_zero, List.set_cons_succ])
              refine take_w (i := 16) (oi := ?oZ53) (v := ?vZ53) ?hiZ53 (by kernel_rfl) (by kernel_rfl) (by kernel_rfl) ?hQZ53 ?hwZ53 ?hyZ53 (by assumption) ?restZ53
              case hiZ53 => (simp only [List.getElem?_toArray, List.getElem?_cons_succ, List.getElem?_cons_zero] <;> rfl)
              case hQZ53 => exact (fun _ _ _ h => h)
              case hwZ53 => rfl
              case hyZ53 => (intro w hSw; (try dsimp only at hSw); go_simp; try with_reducible rfl)
              (try simp only [Act.put, List.setIfInBounds_toArray, List.set_cons_zero, List.set_cons_succ])
              refine take_w (i := 17) (oi := ?oZ54) (v := ?vZ54) ?hiZ54 (by kernel_rfl) (by kernel_rfl) (by kernel_rfl) ?hQZ54 ?hwZ54 ?hyZ54 (by assumption) ?restZ54
              case hiZ54 => (simp only [List.getElem?_toArray, List.getElem?_cons_succ, List.getElem?_cons_zero] <;> rfl)
              case hQZ54 => exact (fun _ _ _ h => h)
              case hwZ54 => rfl
              case hyZ54 => (intro w hSw; (try dsimp only at hSw); go_simp; try with_reducible rfl)
              (try simp only [Act.put, List.setIfInBounds_toArray, List.set_cons_zero, List.set_cons_succ])
              refine wpAnyH_done (by kernel_rfl) ?_ _
              clear hHeld
              clear HS10
              go_upto_region 12 with fail
              refine wp_region_held_drew (S := (fun W => W.cell? ⟨g, i * 5 + 4, none⟩ = some (.slice (some ⟨g2, off2, none⟩) (hs[i]).tn (hs[i]).tc) ∧ (W.cell? ⟨g2, off2, none⟩ = some (.int .i64 (H 0).k) ∧ W.cell? ⟨g2, off2 + 1, none⟩ = some (.slice (H 0).ka (H 0).kn (H 0).kc) ∧ W.cell? ⟨g2, off2 + 2, none⟩ = some (.slice (H 0).va (H 0).vn (H 0).vc) ∧ W.cell? ⟨g2, off2 + 3, none⟩ = some (.slice (H 0).da (H 0).dn (H 0).dc) ∧ W.cell? ⟨g2, off2 + 4, none⟩ = some (.slice (H 0).ta (H 0).tn (H 0).tc)) ∧ W.cell? ⟨g2, off2 + 5, none⟩ = some (.int .i64 (H 1).k) ∧ W.cell? ⟨g2, off2 + 5 + 1, none⟩ = some (.slice (H 1).ka (H 1).kn (H 1).kc) ∧ W.cell? ⟨g2, off2 + 5 + 2, none⟩ = some (.slice (H 1).va (H 1).vn (H 1).vc) ∧ W.cell? ⟨g2, off2 + 5 + 3, none⟩ = some (.slice (H 1).da (H 1).dn (H 1).dc) ∧ W.cell? ⟨g2, off2 + 5 + 4, none⟩ = some (.slice (H 1).ta (H 1).tn (H 1).tc))) (by kernel_rfl) (KEEP.out _ HL.out.drew.drew) (fun hHeld => ?_)
              refine take_w (i := 0) (oi := ?oZ73) (v := ?vZ73) ?hiZ73 (by kernel_rfl) (by kernel_rfl) (by kernel_rfl) ?hQZ73 ?hwZ73 ?hyZ73 (by assumption) ?restZ73
              case hiZ73 => (simp only [List.getElem?_toArray, List.getElem?_cons_zero] <;> rfl)
              case hQZ73 => exact (fun _ _ _ h => h)
              case hwZ73 => rfl
              case hyZ73 => (intro w hSw; (try dsimp only at hSw); go_simp; try with_reducible rfl)
              (try simp only [Act.put, List.setIfInBounds_toArray, List.set_cons_zero, List.set_cons_succ])
              refine take_w (i := 1) (oi := ?oZ74) (v := ?vZ74) ?hiZ74 (by kernel_rfl) (by kernel_rfl) (by kernel_rfl) ?hQZ74 ?hwZ74 ?hyZ74 (by assumption) ?restZ74
              case hiZ74 => (simp only [List.getElem?_toArray, List.getElem?_cons_succ, List.getElem?_cons_zero] <;> rfl)
              case hQZ74 => exact (fun _ _ _ h => h)
              case hwZ74 => rfl
              case hyZ74 => (intro w hSw; (try dsimp only at hSw); go_simp; try with_reducible rfl)
              (try simp only [Act.put, List.setIfInBounds_toArray, List.set_cons_zero, List.set_cons_succ])
              refine take_w (i := 2) (oi := ?oZ75) (v := ?vZ75) ?hiZ75 (by kernel_rfl) (by kernel_rfl) (by kernel_rfl) ?hQZ75 ?hwZ75 ?hyZ75 (by assumption) ?restZ75
              case hiZ75 => (simp only [List.getElem?_toArray, List.getElem?_cons_succ, List.getElem?_cons_zero] <;> rfl)
              case hQZ75 => exact (fun _ _ _ h => h)
              case hwZ75 => rfl
              case hyZ75 => (intro w hSw; (try dsimp only at hSw); go_simp; try with_reducible rfl)
              (try simp only [Act.put, List.setIfInBounds_toArray, List.set_cons_zero, List.set_cons_succ])
              refine take_w (i := 3) (oi := ?oZ76) (v := ?vZ76) ?hiZ76 (by kernel_rfl) (by kernel_rfl) (by kernel_rfl) ?hQZ76 ?hwZ76 ?hyZ76 (by assumption) ?restZ76
              case hiZ76 => (simp only [List.getElem?_toArray, List.getElem?_cons_succ, List.getElem?_cons_zero] <;> rfl)
              case hQZ76 => exact (fun _ _ _ h => h)
              case hwZ76 => rfl
              case hyZ76 => (intro w hSw; (try dsimp only at hSw); go_simp; try with_reducible rfl)
              (try simp only [Act.put, List.setIfInBounds_toArray, List.set_cons_zero, List.set_cons_succ])
              refine take_w (i := 4) (oi := ?oZ77) (v := ?vZ77) ?hiZ77 (by kernel_rfl) (by kernel_rfl) (by kernel_rfl) ?hQZ77 ?hwZ77 ?hyZ77 (by assumption) ?restZ77
              case hiZ77 => (simp only [List.getElem?_toArray, List.getElem?_cons_succ, List.getElem?_cons_zero] <;> rfl)
              case hQZ77 => exact (fun _ _ _ h => h)
              case hwZ77 => rfl
              case hyZ77 => (intro w hSw; (try dsimp only at hSw); go_simp; try with_reducible rfl)
              (try simp only [Act.put, List.setIfInBounds_toArray, List.set_cons_zero, List.set_cons_succ])
              refine take_w (i := 5) (oi := ?oZ78) (v := ?vZ78) ?hiZ78 (by kernel_rfl) (by kernel_rfl) (by kernel_rfl) ?hQZ78 ?hwZ78 ?hyZ78 (by assumption) ?restZ78
              case hiZ78 => (simp only [List.getElem?_toArray, List.getElem?_cons_succ, List.getElem?_cons_zero] <;> rfl)
              case hQZ78 => exact (fun _ _ _ h => h)
              case hwZ78 => rfl
              case hyZ78 => (intro w hSw; (try dsimp only at hSw); go_simp; try with_reducible rfl)
              (try simp only [Act.put, List.setIfInBounds_toArray, List.set_cons_zero, List.set_cons_succ])
              refine take_w (i := 6) (oi := ?oZ79) (v := ?vZ79) ?hiZ79 (by kernel_rfl) (by kernel_rfl) (by kernel_rfl) ?hQZ79 ?hwZ79 ?hyZ79 (by assumption) ?restZ79
              case hiZ79 => (simp only [List.getElem?_toArray, List.getElem?_cons_succ, List.getElem?_cons_zero] <;> rfl)
              case hQZ79 => exact (fun _ _ _ h => h)
              case hwZ79 => rfl
              case hyZ79 => (intro w hSw; (try dsimp only at hSw); go_simp; try with_reducible rfl)
              (try simp only [Act.put, List.setIfInBounds_toArray, List.set_cons_zero, List.set_cons_succ])
              refine take_w (i := 8) (oi := ?oZ80) (v := ?vZ80) ?hiZ80 (by kernel_rfl) (by kernel_rfl) (by kernel_rfl) ?hQZ80 ?hwZ80 ?hyZ80 (by assumption) ?restZ80
              case hiZ80 => (simp only [List.getElem?_toArray, List.getElem?_cons_succ, List.getElem?_cons_zero] <;> rfl)
              case hQZ80 => exact (fun _ _ _ h => h)
              case hwZ80 => rfl
              case hyZ80 => (intro w hSw; (try dsimp only at hSw); go_simp; try with_reducible rfl)
              (try simp only [Act.put, List.setIfInBounds_toArray, List.set_cons_zero, List.set_cons_succ])
              refine take_w (i := 9) (oi := ?oZ81) (v := ?vZ81) ?hiZ81 (by kernel_rfl) (by kernel_rfl) (by kernel_rfl) ?hQZ81 ?hwZ81 ?hyZ81 (by assumption) ?restZ81
              case hiZ81 => (simp only [List.getElem?_toArray, List.getElem?_cons_succ, List.getElem?_cons_zero] <;> rfl)
              case hQZ81 => exact (fun _ _ _ h => h)
              case hwZ81 => rfl
              case hyZ81 => (intro w hSw; (try dsimp only at hSw); go_simp; try with_reducible rfl)
              (try simp only [Act.put, List.setIfInBounds_toArray, List.set_cons_zero, List.set_cons_succ])
              refine take_w (i := 10) (oi := ?oZ82) (v := ?vZ82) ?hiZ82 (by kernel_rfl) (by kernel_rfl) (by kernel_rfl) ?hQZ82 ?hwZ82 ?hyZ82 (by assumption) ?restZ82
              case hiZ82 => (simp only [List.getElem?_toArray, List.getElem?_cons_succ, List.getElem?_cons_zero] <;> rfl)
              case hQZ82 => exact (fun _ _ _ h => h)
              case hwZ82 => rfl
              case hyZ82 => (intro w hSw; (try dsimp only at hSw); go_simp; try with_reducible rfl)
              (try simp only [Act.put, List.setIfInBounds_toArray, List.set_cons_zero, List.set_cons_succ])
              refine take_w (i := 11) (oi := ?oZ83) (v := ?vZ83) ?hiZ83 (by kernel_rfl) (by kernel_rfl) (by kernel_rfl) ?hQZ83 ?hwZ83 ?hyZ83 (by assumption) ?restZ83
              case hiZ83 => (simp only [List.getElem?_toArray, List.getElem?_cons_succ, List.getElem?_cons_zero] <;> rfl)
              case hQZ83 => exact (fun _ _ _ h => h)
              case hwZ83 => rfl
              case hyZ83 => (intro w hSw; (try dsimp only at hSw); go_simp; try with_reducible rfl)
              (try simp only [Act.put, List.setIfInBounds_toArray, List.set_cons_zero, List.set_cons_succ])
              refine take_w (i := 12) (oi := ?oZ84) (v := ?vZ84) ?hiZ84 (by kernel_rfl) (by kernel_rfl) (by kernel_rfl) ?hQZ84 ?hwZ84 ?hyZ84 (by assumption) ?restZ84
              case hiZ84 => (simp only [List.getElem?_toArray, List.getElem?_cons_succ, List.getElem?_cons_zero] <;> rfl)
              case hQZ84 => exact (fun _ _ _ h => h)
              case hwZ84 => rfl
              case hyZ84 => (intro w hSw; (try dsimp only at hSw); go_simp; try with_reducible rfl)
              (try simp only [Act.put, List.setIfInBounds_toArray, List.set_cons_zero, List.set_cons_succ])
              refine take_w (i := 13) (oi := ?oZ85) (v := ?vZ85) ?hiZ85 (by kernel_rfl) (by kernel_rfl) (by kernel_rfl) ?hQZ85 ?hwZ85 ?hyZ85 (by assumption) ?restZ85
              case hiZ85 => (simp only [List.getElem?_toArray, List.getElem?_cons_succ, List.getElem?_cons_zero] <;> rfl)
              case hQZ85 => exact (fun _ _ _ h => h)
              case hwZ85 => rfl
              case hyZ85 => (intro w hSw; (try dsimp only at hSw); go_simp; try with_reducible rfl)
              (try simp only [Act.put, List.setIfInBounds_toArray, List.set_cons_zero, List.set_cons_succ])
              refine take_w (i := 14) (oi := ?oZ86) (v := ?vZ86) ?hiZ86 (by kernel_rfl) (by kernel_rfl) (by kernel_rfl) ?hQZ86 ?hwZ86 ?hyZ86 (by assumption) ?restZ86
              case hiZ86 => (simp only [List.getElem?_toArray, List.getElem?_cons_succ, List.getElem?_cons_zero] <;> rfl)
              case hQZ86 => exact (fun _ _ _ h => h)
              case hwZ86 => rfl
              case hyZ86 => (intro w hSw; (try dsimp only at hSw); go_simp; try with_reducible rfl)
              (try simp only [Act.put, List.setIfInBounds_toArray, List.set_cons_zero, List.set_cons_succ])
              refine wpAnyH_ready (rs := [7]) (by kernel_rfl) (by simp) ?_
              refine AllReadyH.cons (o := ?oZ87) ?hiZ87 (fun K hK => ?stZ87) AllReadyH.nil
              case hiZ87 => (simp only [List.getElem?_toArray, List.getElem?_cons_succ, List.getElem?_cons_zero] <;> rfl)
              go_simp
              go_at_call 32
              refine (refDepth_any l.tr (H 0) 64 _ (HL.out.drew.drew.p.kids 0 (by rw [AT.tr_kids]; simp)) ?_ ?_ (by omega) (by omega)).mono ?_
              · exact HLD.out.1.1
              · exact HLD.out.1.2
              rintro _ w5 ⟨rfl, hb5⟩
              have HL5 := Lib.hid (HL.out.drew.drew.below hb5)
              rw [AT.tr_depth]
              clear hb5
              go_simp
              refine hK.out _ _ ?_ (fun hHeld => ?_)
              · (first | exact KEEP.out _ HL6.out | exact KEEP.out _ HL5.out | exact KEEP.out _ HL.out.drew.drew)
              clear hK K
              (try simp only [Act.put, List.setIfInBounds_toArray, List.set_cons_zero, List.set_cons_succ])
              refine wpAnyH_ready (rs := [15]) (by kernel_rfl) (by simp) ?_
              refine AllReadyH.cons (o := ?oZ88) ?hiZ88 (fun K hK => ?stZ88) AllReadyH.nil
              case hiZ88 => (simp only [List.getElem?_toArray, List.getElem?_cons_succ, List.getElem?_cons_zero] <;> rfl)
              go_simp
              go_at_call 32
              refine (refDepth_any r.tr (H 1) 64 _ (HL5.out.p.kids 1 (by rw [AT.tr_kids]; simp)) ?_ ?_ (by omega) (by omega)).mono ?_
              · exact HLD.out.2.1
              · exact HLD.out.2.2
              rintro _ w6 ⟨rfl, hb6⟩
              have HL6 := Lib.hid (HL5.out.below hb6)
              rw [AT.tr_depth]
              clear hb6
              go_simp
              refine hK.out _ _ ?_ (fun hHeld => ?_)
              · (first | exact KEEP.out _ HL6.out | exact KEEP.out _ HL5.out | exact KEEP.out _ HL.out.drew.drew)
              clear hK K
              (try simp only [Act.put, List.setIfInBounds_toArray, List.set_cons_zero, List.set_cons_succ])
              refine take_w (i := 16) (oi := ?oZ89) (v := ?vZ89) ?hiZ89 (by kernel_rfl) (by kernel_rfl) (by kernel_rfl) ?hQZ89 ?hwZ89 ?hyZ89 (by assumption) ?restZ89
              case hiZ89 => (simp only [List.getElem?_toArray, List.getElem?_cons_succ, List.getElem?_cons_zero] <;> rfl)
              case hQZ89 => exact (fun _ _ _ h => h)
              case hwZ89 => rfl
              case hyZ89 => (intro w hSw; (try dsimp only at hSw); go_simp; try with_reducible rfl)
              (try simp only [Act.put, List.setIfInBounds_toArray, List.set_cons_zero, List.set_cons_succ])
              refine take_w (i := 17) (oi := ?oZ90) (v := ?vZ90) ?hiZ90 (by kernel_rfl) (by kernel_rfl) (by kernel_rfl) ?hQZ90 ?hwZ90 ?hyZ90 (by assumption) ?restZ90
              case hiZ90 => (simp only [List.getElem?_toArray, List.getElem?_cons_succ, List.getElem?_cons_zero] <;> rfl)
              case hQZ90 => exact (fun _ _ _ h => h)
              case hwZ90 => rfl
              case hyZ90 => (intro w hSw; (try dsimp only at hSw); go_simp; try with_reducible rfl)
              (try simp only [Act.put, List.setIfInBounds_toArray, List.set_cons_zero, List.set_cons_succ])
              refine wpAnyH_done (by kernel_rfl) ?_ _
              clear hHeld
              by_cases c1 : (1 : Int) < (l.depth : Int) - (r.depth : Int)
              · have d1 : decide ((l.depth : Int) - (r.depth : Int) ≤ 1) = false := decide_eq_false (by omega)
                have HD1 := Lib.hid d1
                clear d1
                go_wp2_with fail
                go_ret
                refine ⟨?_, HL6.out.s.b⟩
                rw [HE.out, levelB_no him2 (by rw [HCD.out, HCL.out, HD1.out]; rfl)]
                rfl
              · by_cases c2 : (l.depth : Int) - (r.depth : Int) < -1
                · have d1 : decide (-1 ≤ (l.depth : Int) - (r.depth : Int)) = false := decide_eq_false (by omega)
                  have HD1 := Lib.hid (And.intro d1 (decide_eq_true (show (l.depth : Int) - (r.depth : Int) ≤ 1 by omega)))
                  clear d1
                  go_wp2_with fail
                  go_ret
                  refine ⟨?_, HL6.out.s.b⟩
                  rw [HE.out, levelB_no him2 (by rw [HCD.out, HCL.out, HD1.out.2, HD1.out.1]; rfl)]
                  rfl
                · have d1 : decide ((l.depth : Int) - (r.depth : Int) ≤ 1) = true := decide_eq_true (by omega)
                  have d2 : decide (-1 ≤ (l.depth : Int) - (r.depth : Int)) = true := decide_eq_true (by omega)
                  have HD1 := Lib.hid (all_step HALL.out (by rw [HCD.out, HCL.out, d1, d2]; rfl))
                  clear d1 d2
                  go_wp2_with fail
                  exact ⟨⟨i + 1, by omega, by go_num, HL6.out.s, HD1.out⟩, by simp [intOf]; omega⟩
        · obtain rfl : i = n := by omega
          have q1 : ¬ (i : Int) < (i : Int) := by omega
          go_wp2_with fail
          go_ret
          refine ⟨?_, hls.b⟩
          rw [HE.out, levelB_eq, HN.out, HALL.out]
          rfl
  · have hc0 : ((checkT t : Nat) : Int) ≠ 0 := by omega
    have HC := Lib.hid hc
    clear hc
    go_wp2_with (first
      | (go_at_call 29
         refine (refCheck_any t h _ ?_).mono ?_
         · exact HT.out.lower ((Below.refl _ _).alloc (Nat.le_refl _) _)
         rintro _ w1 ⟨rfl, hb1⟩
         have HB1 : Hid (Below w.heap.size w w1) := Lib.hid (((Below.refl w.heap.size w).alloc (Nat.le_refl _) _).trans (hb1.mono (by simp)))
         clear hb1 x0 x1 x2 x3 x4))
    go_ret
    refine ⟨?_, HB1.out⟩
    unfold isT
    rw [decide_eq_false HC.out, Bool.false_and]
    rfl

end Go.Proofs.Ytpjojhmdgeejmaa
