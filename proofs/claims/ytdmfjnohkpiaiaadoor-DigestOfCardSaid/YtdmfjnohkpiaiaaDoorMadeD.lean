/- The contract of the document's Made: the tables. -/
import Derived.Test.YtdmfjnohkpiaiaaDoorLib
import Derived.Test.YtdmfjnohkpiaiaaDoorMadeC
import Derived.Test.YtdmfjnohkpiaiaaDoorRoots
import Derived.OwnWalk
import Derived.Maps.AppendAt
import Derived.Deep.AppendLies
import Derived.Deep.RegionLaw
namespace Go.Proofs.YtdmfjnohkpiaiaaDoor
open Go.RowKit
set_option linter.unusedVariables false

/-- Block g holds a Tables: the slice v, the words hs. -/
def TB (w : World) (g : Nat) (v : Value) (hs : List Int) : Prop := w.heap[g]? = some (.cells (v :: hs.map (Value.int .u32)).toArray 34 (0, 0))
section
variable {w w' : World} {g : Nat} {v : Value} {hs : List Int}
theorem TB.lt (h : TB w g v hs) : g < w.heap.size := by
  rcases Nat.lt_or_ge g w.heap.size with hlt | hge
  · exact hlt
  · unfold TB at h; rw [Array.getElem?_eq_none hge] at h; cases h
theorem TB.cell0 (h : TB w g v hs) : w.cell? ⟨g, 0, none⟩ = some v := by
  rw [cell_of_row w g 0 _ _ (0, 0) h]; simp
theorem TB.cellH (h : TB w g v hs) (i : Nat) (hi : i < hs.length) : w.cell? ⟨g, 1 + i, none⟩ = some (.int .u32 (hs.getD i 0)) := by
  rw [cell_of_row w g (1 + i) _ _ (0, 0) h, Nat.add_comm]
  simp [hi, List.getD]
theorem TB.frozen (h : TB w g v hs) (i : Nat) : w.frozen? ⟨g, i, none⟩ = false := by
  unfold TB at h
  simp [World.frozen?, h]
theorem TB.set0 (h : TB w g v hs) (u : Value) : TB (w.setCell ⟨g, 0, none⟩ u) g u hs := by
  unfold TB at h ⊢
  simp [World.setCell, Array.getElem?_modify, h]
theorem TB.setH (h : TB w g v hs) (i : Nat) (z : Int) : TB (w.setCell ⟨g, 1 + i, none⟩ (.int .u32 z)) g v (hs.set i z) := by
  unfold TB at h ⊢
  rw [Nat.add_comm]
  simp [World.setCell, Array.getElem?_modify, h, List.map_set]
theorem TB.far (h : TB w g v hs) {p : Addr} (hp : g ≠ p.block) (u : Value) : TB (w.setCell p u) g v hs := (Below.heap_setCell w p u g hp).trans h
theorem TB.alloc (h : TB w g v hs) (o : Obj) : TB (w.alloc o) g v hs := (Below.heap_alloc w o g h.lt).trans h
theorem TB.drewN (h : TB w g v hs) (n : Nat) : TB (w.drewN n) g v hs := h
theorem TB.below {B : Nat} (h : TB w g v hs) (hb : Below B w w') (hg : g < B) : TB w' g v hs := (hb.block g hg).trans h
theorem TB.grown {row : Option Nat} (h : TB w g v hs) (hb : w.grownBy w' row) (hg : some g ≠ row) : TB w' g v hs := (hb.block g h.lt hg).trans h
end
/-- The tables as a value: the slice of the constants, and the words at first. -/
def tabV (g c : Nat) : Value := .agg (Value.slice (some ⟨g, 0, none⟩) 64 c :: hTab.map (Value.int .u32)).toArray
theorem sizeTab : (Tryd.prog.info? 34).map (·.size) = some 9 := by kernel_rfl
def MadePost (w : World) (e : Ending) (w' : World) : Prop :=
  ∃ g c, e = .returned (tabV g c) ∧ w'.ownsRow (w.heap.size + 2) 31 1 (.slice (some ⟨g, 0, none⟩) 64 c) 64 (kTab.map (Value.int .u32)) ∧ Below w.heap.size w w'
theorem infoU32m : (Tryd.prog.info? 31).map (fun i => (i.zero, i.size, i.bytes)) = some (some (.int .u32 0), 1, 4) := by kernel_rfl

set_option maxRecDepth 100000 in
set_option maxHeartbeats 4000000 in
theorem made_any (w : World) : Calls Tryd.prog 8 #[] w (MadePost w) := by
  obtain ⟨i0, hi0, hz0, hz1, hz2⟩ := info_parts infoU64
  obtain ⟨j0, hj0, hy0, hy1, hy2⟩ := info_parts infoU32m
  go_enter Tryd.func8, Tryd.ntmps8
  go_wp2_with fail
  go_loopw [2, 3] (fun l k wx => ∃ (n : Nat) (a : Option Addr) (c : Nat), n ≤ 310 ∧ k = .int .u64 ((n + 2 : Nat) : Int) ∧ l = .slice a (sieve n).length c ∧ wx.ownsRow (w.heap.size + 2) 45 1 (.slice a (sieve n).length c) (sieve n).length ((sieve n).map (Value.int .u64)) ∧ TB wx w.heap.size (.slice none 0 0) [0, 0, 0, 0, 0, 0, 0, 0] ∧ TB wx (w.heap.size + 1) (.slice none 0 0) [0, 0, 0, 0, 0, 0, 0, 0] ∧ Below w.heap.size w wx) (fun _ k _ => 312 - (intOf k).toNat)
  case atStart =>
    refine ⟨0, none, 0, by omega, rfl, rfl, World.ownsRow_nil _ _ _ _, ?_, ?_, ((Below.refl _ _).alloc (Nat.le_refl _) _).alloc (by simp) _⟩
    · exact heap_alloc2_old w _ _
    · exact heap_alloc2_new w _ _
  case round =>
    obtain ⟨n, a, c, hn, rfl, rfl, ho, ht0, ht1, hb⟩ := hrel
    have HO := Lib.hid ho
    have HT0 := Lib.hid ht0
    have HT1 := Lib.hid ht1
    have HB := Lib.hid hb
    clear ho ht0 ht1 hb
    by_cases hlt : n < 310
    · have hsh := sieve_short n hlt
      have hnx := sieve_next n
      have hok := sieve_ok n (by omega)
      generalize sieve n = ps at *
      have HNX := Lib.hid hnx
      have HOK := Lib.hid hok
      clear hnx hok
      have hlen2 : ((ps.length : Nat) : Int) < 64 := by omega
      have hkk : (2 : Int) ≤ ((n + 2 : Nat) : Int) ∧ ((n + 2 : Nat) : Int) ≤ 312 := by omega
      generalize hkn : ((n + 2 : Nat) : Int) = k at *
      have HKN := Lib.hid hkn
      clear hkn
      go_wp2_with fail
      go_loop [4, 5] (fun ok i => ∃ j : Nat, j ≤ ps.length ∧ i = .int .i64 j ∧ ok = .bool (allNe k ps j)) (fun _ i => ps.length - (intOf i).toNat)
      case atStart => exact ⟨0, by omega, rfl, rfl⟩
      case round =>
        obtain ⟨j, hj, rfl, rfl⟩ := hrel
        by_cases hlt2 : j < ps.length
        · have hjl : (j : Int) < (ps.length : Int) := by omega
          have hq := HOK.out (ps.getD j 0) (by simp [List.getD, hlt2])
          have hform : ∃ g, a = some ⟨g, 0, none⟩ := by
            obtain ⟨g, cap, hv, _, _⟩ := HO.out.form (by omega)
            injection hv with h1
            exact ⟨g, h1⟩
          obtain ⟨g, rfl⟩ := hform
          have hc : wr.cell? ⟨g, j, none⟩ = some (.int .u64 (ps.getD j 0)) := by
            have h := HO.out.cells (g := g) rfl j (.int .u64 (ps.getD j 0)) (by simp [List.getD, hlt2])
            have hp : (⟨g, 0, none⟩ : Addr).add j = ⟨g, j, none⟩ := by unfold Addr.add; split <;> simp_all
            rw [hp] at h
            exact h
          have hst : allNe k ps (j + 1) = (allNe k ps j && (k % ps.getD j 0 != 0)) := rfl
          generalize ps.getD j 0 = q at *
          have HST := Lib.hid hst
          clear hst
          have hq0 : (q == 0) = false := by rw [beq_eq_false_iff_ne]; omega
          cases hb2 : allNe k ps j
          · rw [hb2] at HST
            have HST2 := Lib.hid HST.out
            clear HST
            go_wp2_with fail
            go_round
            case rel => exact ⟨j + 1, by omega, by go_num, by rw [HST2.out]; rfl⟩
            case measure => simp [intOf]; omega
          · rw [hb2] at HST
            have HST2 := Lib.hid HST.out
            clear HST
            go_wp2_with fail
            exact ⟨⟨j + 1, by omega, by go_num, by rw [HST2.out]; rfl⟩, by simp [intOf]; omega⟩
        · obtain rfl : j = ps.length := by omega
          have hkk2 : k + 1 = ((n + 1 + 2 : Nat) : Int) := by rw [← HKN.out]; omega
          have HKK2 := Lib.hid hkk2
          clear hkk2
          cases hb2 : allNe k ps ps.length
          · have hps : sieve (n + 1) = ps := by rw [HNX.out, hb2]; rfl
            have HPS := Lib.hid hps
            clear hps hb2
            go_wp2_with fail
            go_roundw
            case rel =>
              refine ⟨n + 1, a, c, by omega, by rw [← HKK2.out], ?_, ?_, HT0.out, HT1.out, HB.out⟩
              · rw [HPS.out]
              · rw [HPS.out]; exact HO.out
            case measure =>
              have := HKN.out
              simp [intOf]; omega
          · have hps : sieve (n + 1) = ps ++ [k] := by rw [HNX.out, hb2]; rfl
            have HPS := Lib.hid hps
            clear hps hb2
            go_wp2_with (first
              | (at_builtin
                 refine wpList_append_lies _ rfl (.tmp 30) (.tmp 32) 44 rfl (w.heap.size + 2) 45 i0 _ 1 8 Tryd.underlying44 hi0 hz0 hz1 hz2 rfl (by omega) (.slice a ps.length c) ps.length (ps.map (Value.int .u64)) rfl (HO.out.alloc _) ⟨wr.heap.size, 0, none⟩ 1 1 [.int .u64 k] rfl rfl (cell_one_new _ _ _) (by simp [Value.oneCell']) (by omega) (by simp only [maxLen]; omega) (by omega) (by have := HT1.out.lt; simp; omega) (wr.heap.size + 1) (by simp) ?_
                 intro g1 c1 w1 hown1 hg1 hat1 hlt1
                 have HO1 := Lib.hid hown1
                 have HG1 := Lib.hid hg1
                 clear hown1 hg1 hat1 hlt1))
            go_roundw
            case rel =>
              refine ⟨n + 1, some ⟨g1, 0, none⟩, c1, by omega, by rw [← HKK2.out], ?_, ?_, ?_, ?_, ?_⟩
              · rw [HPS.out]; simp
              · rw [HPS.out]
                have h := HO1.out
                rw [show (ps ++ [k]).length = ps.length + 1 by simp, List.map_append]
                exact h
              · exact (HT0.out.alloc _).grown HG1.out (fun e => by have := (HO.out.lt _ e.symm).1; omega)
              · exact (HT1.out.alloc _).grown HG1.out (fun e => by have := (HO.out.lt _ e.symm).1; omega)
              · exact (HB.out.alloc HB.out.size _).grown HG1.out (by have := HB.out.size; simp; omega) (fun q hq => by have := (HO.out.lt q hq).1; omega)
            case measure =>
              have := HKN.out
              simp [intOf]; omega
    · obtain rfl : n = 310 := by omega
      have ho := HO.out
      rw [sieve_all] at ho
      rw [sieve_all, show ((310 + 2 : Nat) : Int) = 312 from rfl]
      have hpl : primes.length = 64 := rfl
      rw [hpl] at ho ⊢
      obtain ⟨gl, cl, hv, hgl, hgl2⟩ := ho.form (by omega)
      rw [hv] at ho ⊢
      clear HO
      have HO := Lib.hid ho
      clear ho hv hpl
      go_wp2_with fail
      go_loopw [6] (fun i wx => ∃ (j : Nat) (v : Value), j ≤ 64 ∧ i = .int .i64 j ∧ TB wx (w.heap.size + 1) v [0, 0, 0, 0, 0, 0, 0, 0] ∧ wx.ownsRow (w.heap.size + 2) 31 1 v j ((kTab.take j).map (Value.int .u32)) ∧ wx.ownsRow (w.heap.size + 2) 45 1 (.slice (some ⟨gl, 0, none⟩) 64 cl) 64 (primes.map (Value.int .u64)) ∧ TB wx w.heap.size (.slice none 0 0) [0, 0, 0, 0, 0, 0, 0, 0] ∧ Below w.heap.size w wx) (fun i _ => 64 - (intOf i).toNat)
      case atStart => exact ⟨0, .slice none 0 0, by omega, rfl, HT1.out, World.ownsRow_nil _ _ _ _, HO.out, HT0.out, HB.out⟩
      case round =>
        obtain ⟨j, v, hj, rfl, ht1, hov, hol, ht0, hb⟩ := hrel
        clear HO HT0 HT1 HB
        have HT1 := Lib.hid ht1
        have HOV := Lib.hid hov
        have HOL := Lib.hid hol
        have HT0 := Lib.hid ht0
        have HB := Lib.hid hb
        clear ht1 hov hol ht0 hb
        by_cases hlt2 : j < 64
        · have c0 := HT1.out.cell0
          have cj : wr.cell? ⟨gl, j, none⟩ = some (.int .u64 (primes.getD j 0)) := by
            have h := HOL.out.cells (g := gl) rfl j (.int .u64 (primes.getD j 0)) (by simp [List.getD, show j < primes.length from hlt2])
            have hp : (⟨gl, 0, none⟩ : Addr).add j = ⟨gl, j, none⟩ := by unfold Addr.add; split <;> simp_all
            rw [hp] at h
            exact h
          have hpr : 0 ≤ primes.getD j 0 ∧ primes.getD j 0 ≤ 1000 := by
            have h := sieve_ok 310 (by omega) (primes.getD j 0) (by rw [sieve_all]; simp [List.getD, show j < primes.length from hlt2])
            omega
          have hroot : ∀ W, Calls Tryd.prog 16 #[.int .u64 (primes.getD j 0), .bool true] W (RootPost W (kTab.getD j 0)) := fun W => by
            rw [← kroots j hlt2]
            exact root_any _ true W hpr.1 hpr.2
          have htk : kTab.take (j + 1) = kTab.take j ++ [kTab.getD j 0] := by
            rw [List.take_succ_eq_append_getElem (show j < kTab.length from hlt2)]
            simp [List.getD, show j < kTab.length from hlt2]
          generalize primes.getD j 0 = pj at *
          generalize kTab.getD j 0 = kj at *
          have HROOT := Lib.hid hroot
          have HTK := Lib.hid htk
          have kT : w.heap.size + 1 < wr.heap.size := HT1.out.lt
          have kL : gl < wr.heap.size := (HOL.out.lt gl rfl).2
          have jb : (j : Int) < 64 := by omega
          clear hroot htk hpr
          go_wp2_with fail
          go_region_law (first
            | (refine step_append_lies _ (by rfl) (.tmp 39) (.tmp 45) 30 (by rfl) (w.heap.size + 2) 31 j0 _ 1 4 Tryd.underlying30 hj0 hy0 hy1 hy2 rfl (by omega) v j ((kTab.take j).map (Value.int .u32)) (by rfl) (HV2.out.alloc _) ⟨w2.heap.size, 0, none⟩ 1 1 [.int .u32 kj] (by rfl) (by rfl) (cell_one_new w2 _ _) (by simp [Value.oneCell']) (by omega) (by simp only [maxLen]; omega) (by omega) (by have := HT2.out.lt; simp; omega) (w2.heap.size + 1) (by simp) ?_; intro g5 cap5 w5 hown5 hg5 hat5 hlt5; have HO5 := Lib.hid hown5; have HT5 := Lib.hid ((HT2.out.alloc (.cells #[.int .u32 kj] 31)).grown hg5 (fun e => by have := (HV2.out.lt _ e.symm).1; omega)); have HZ5 := Lib.hid ((HZ2.out.alloc (.cells #[.int .u32 kj] 31)).grown hg5 (fun e => by have := (HV2.out.lt _ e.symm).1; omega)); have HL5 := Lib.hid ((HL2.out.alloc (.cells #[.int .u32 kj] 31)).kept hg5 (.inr (by have := own_ne HL2.out HV2.out (by decide); exact fun e => this (by rw [← e]; rfl)))); have HB5 := Lib.hid ((HB2.out.alloc HB2.out.size (.cells #[.int .u32 kj] 31)).grown hg5 (by have := HB2.out.size; simp; omega) (fun q hq => by have := (HV2.out.lt q hq).1; omega)); have d0 := HT5.out.cell0; have df := HT5.out.frozen 0; clear hown5 hg5 hat5 hlt5)
            | (go_simp; go_at_call 16; (with_reducible refine (HROOT.out _).mono ?_); rintro _ w2 ⟨rfl, hb2⟩; have HT2 : Hid (TB w2 (w.heap.size + 1) v [0, 0, 0, 0, 0, 0, 0, 0]) := Lib.hid (TB.below (w := wr.drew) HT1.out hb2 HT1.out.lt); have HZ2 : Hid (TB w2 w.heap.size (.slice none 0 0) [0, 0, 0, 0, 0, 0, 0, 0]) := Lib.hid (TB.below (w := wr.drew) HT0.out hb2 HT0.out.lt); have HV2 : Hid (w2.ownsRow (w.heap.size + 2) 31 1 v j ((kTab.take j).map (Value.int .u32))) := Lib.hid (World.ownsRow.kept (w := wr.drew) HOV.out (only_below hb2 none) (by cases v.ownBlock <;> simp)); have HL2 : Hid (w2.ownsRow (w.heap.size + 2) 45 1 (.slice (some ⟨gl, 0, none⟩) 64 cl) 64 (primes.map (Value.int .u64))) := Lib.hid (World.ownsRow.kept (w := wr.drew) HOL.out (only_below hb2 none) (.inr (by simp [Value.ownBlock]))); have HB2 : Hid (Below w.heap.size w w2) := Lib.hid (HB.out.drew.trans (hb2.mono HB.out.size)); have e0 := HT2.out.cell0; have kT2 : w.heap.size + 1 < w2.heap.size := HT2.out.lt; have kT3 : ¬ w.heap.size + 1 = w2.heap.size := (by omega); clear hb2))
          all_goals
            go_wp2_with fail
            go_roundw
            case rel =>
              refine ⟨j + 1, .slice (some ⟨g5, 0, none⟩) (j + 1) cap5, by omega, by go_num, HT5.out.set0 _, ?_, ?_, HZ5.out.far (p := ⟨w.heap.size + 1, 0, none⟩) (by simp) _, HB5.out.setCell (p := ⟨w.heap.size + 1, 0, none⟩) (Nat.le_succ _) _⟩
              · rw [HTK.out, List.map_append]
                exact HO5.out.kept (only_set (only_refl w5 (some (w.heap.size + 1))) 0 _) (.inr (fun e => by have := (HO5.out.lt _ e).1; omega))
              · exact HL5.out.kept (only_set (only_refl w5 (some (w.heap.size + 1))) 0 _) (.inr (fun e => by have := (HL5.out.lt _ e).1; omega))
            case measure => simp [intOf]; omega
        · obtain rfl : j = 64 := by omega
          have hov := HOV.out
          rw [show kTab.take 64 = kTab from rfl] at hov
          obtain ⟨gk, ck, hv, hgk, hgk2⟩ := hov.form (by omega)
          rw [hv] at hov
          have ht1 := HT1.out
          rw [hv] at ht1
          clear HOV HT1
          have HOV := Lib.hid hov
          have HT1 := Lib.hid ht1
          clear hov ht1 hv
          rw [show ((64 : Nat) : Int) = 64 from rfl]
          go_wp2_with fail
          go_loopw [7] (fun i wx => ∃ j : Nat, j ≤ 8 ∧ i = .int .i64 j ∧ TB wx (w.heap.size + 1) (.slice (some ⟨gk, 0, none⟩) 64 ck) (hTab.take j ++ List.replicate (8 - j) 0) ∧ wx.ownsRow (w.heap.size + 2) 31 1 (.slice (some ⟨gk, 0, none⟩) 64 ck) 64 (kTab.map (Value.int .u32)) ∧ wx.ownsRow (w.heap.size + 2) 45 1 (.slice (some ⟨gl, 0, none⟩) 64 cl) 64 (primes.map (Value.int .u64)) ∧ TB wx w.heap.size (.slice none 0 0) [0, 0, 0, 0, 0, 0, 0, 0] ∧ Below w.heap.size w wx) (fun i _ => 8 - (intOf i).toNat)
          case atStart => exact ⟨0, by omega, rfl, HT1.out, HOV.out, HOL.out, HT0.out, HB.out⟩
          case round =>
            obtain ⟨j, hj, rfl, ht1, hov, hol, ht0, hb⟩ := hrel
            clear HOV HOL HT0 HT1 HB
            have HT1 := Lib.hid ht1
            have HOV := Lib.hid hov
            have HOL := Lib.hid hol
            have HT0 := Lib.hid ht0
            have HB := Lib.hid hb
            clear ht1 hov hol ht0 hb
            by_cases hlt2 : j < 8
            · have hjp : j < primes.length := show j < 64 by omega
              have cj : wr.cell? ⟨gl, j, none⟩ = some (.int .u64 (primes.getD j 0)) := by
                have h := HOL.out.cells (g := gl) rfl j (.int .u64 (primes.getD j 0)) (by simp [List.getD, hjp])
                have hp : (⟨gl, 0, none⟩ : Addr).add j = ⟨gl, j, none⟩ := by unfold Addr.add; split <;> simp_all
                rw [hp] at h
                exact h
              have hpr : 0 ≤ primes.getD j 0 ∧ primes.getD j 0 ≤ 1000 := by
                have h := sieve_ok 310 (by omega) (primes.getD j 0) (by rw [sieve_all]; simp [List.getD, hjp])
                omega
              have hroot : ∀ W, Calls Tryd.prog 16 #[.int .u64 (primes.getD j 0), .bool false] W (RootPost W (hTab.getD j 0)) := fun W => by
                rw [← hroots j hlt2]
                exact root_any _ false W hpr.1 hpr.2
              have hjh : j < hTab.length := hlt2
              have hset : (hTab.take j ++ List.replicate (8 - j) 0).set j (hTab.getD j 0) = hTab.take (j + 1) ++ List.replicate (8 - (j + 1)) 0 := by
                have e := set_at (hTab.take j) (7 - j) (hTab.getD j 0)
                have hl : (hTab.take j).length = j := by rw [List.length_take]; exact Nat.min_eq_left (Nat.le_of_lt hjh)
                rw [hl, show 7 - j + 1 = 8 - j by omega] at e
                rw [e, List.take_succ_eq_append_getElem hjh, show 7 - j = 8 - (j + 1) by omega]
                simp [List.getD, hjh]
              have hlen : (hTab.take j ++ List.replicate (8 - j) (0 : Int)).length = 8 := by
                rw [List.length_append, List.length_take, List.length_replicate, show hTab.length = 8 from rfl]
                omega
              generalize primes.getD j 0 = pj at *
              generalize hTab.getD j 0 = kj at *
              have HROOT := Lib.hid hroot
              have HSET := Lib.hid hset
              have HLEN := Lib.hid hlen
              have jb : (j : Int) < 8 := by omega
              have jb2 : (j : Int) < 64 := by omega
              clear hroot hset hpr hlen
              go_wp2_with (first
                | (go_at_call 16
                   (with_reducible refine (HROOT.out _).mono ?_)
                   rintro _ w2 ⟨rfl, hb2⟩
                   have HT2 := Lib.hid (HT1.out.below hb2 HT1.out.lt)
                   have HZ2 := Lib.hid (HT0.out.below hb2 HT0.out.lt)
                   have HV2 := Lib.hid (HOV.out.kept (only_below hb2 none) (.inr (by simp [Value.ownBlock])))
                   have HL2 := Lib.hid (HOL.out.kept (only_below hb2 none) (.inr (by simp [Value.ownBlock])))
                   have HB2 := Lib.hid (HB.out.trans (hb2.mono HB.out.size))
                   have d0 := HT2.out.cellH j (by rw [HLEN.out]; exact hlt2)
                   have df := HT2.out.frozen (1 + j)
                   clear hb2))
              refine ⟨⟨j + 1, by omega, by go_num, ?_, ?_, ?_, ?_, ?_⟩, by simp [intOf]; omega⟩
              · rw [← HSET.out]
                exact HT2.out.setH j kj
              · exact HV2.out.kept (only_set (only_refl w2 (some (w.heap.size + 1))) _ _) (.inr (fun e => by have := (HV2.out.lt _ e).1; omega))
              · exact HL2.out.kept (only_set (only_refl w2 (some (w.heap.size + 1))) _ _) (.inr (fun e => by have := (HL2.out.lt _ e).1; omega))
              · exact HZ2.out.far (p := ⟨w.heap.size + 1, 1 + j, none⟩) (by simp) _
              · exact HB2.out.setCell (p := ⟨w.heap.size + 1, 1 + j, none⟩) (Nat.le_succ _) _
            · obtain rfl : j = 8 := by omega
              have ht1 := HT1.out
              rw [show hTab.take 8 ++ List.replicate (8 - 8) 0 = hTab from rfl] at ht1
              clear HT1
              have HT1 := Lib.hid ht1
              clear ht1
              go_wp2_with (first
                | (refine wpList_load_row rfl 34 (.tmp 1) rfl (w.heap.size + 1) rfl 34 _ (0, 0) _ HT1.out Tryd.underlying34 rfl sizeTab ?_)
                | (refine wpList_store_row rfl 34 (.tmp 0) (.tmp 60) rfl w.heap.size (Value.slice (some ⟨gk, 0, none⟩) 64 ck :: hTab.map (Value.int .u32)).toArray rfl rfl 34 _ HT0.out sizeTab rfl (by simp [Value.oneCell']) ?_))
              have hg9 : wr.grownBy (wr.setRow w.heap.size (Value.slice (some ⟨gk, 0, none⟩) 64 ck :: hTab.map (Value.int .u32)).toArray) (some w.heap.size) := ⟨rfl, rfl, rfl, by simp, fun q hq hne => setRow_other wr w.heap.size q _ (fun e => hne (by rw [e]))⟩
              refine bodyPost_ret (v := tabV gk ck) (results_cell_row Tryd.results8 _ _ w.heap.size 34 _ _ _ rfl (setRow_heap wr w.heap.size _ _ _ _ HT0.out) Tryd.underlying34 rfl sizeTab) rfl ⟨gk, ck, rfl, ?_, ?_⟩
              · exact HOV.out.kept hg9 (.inr (fun e => by have := (HOV.out.lt _ e).1; omega))
              · exact below_only HB.out hg9 HB.out.size (Nat.le_refl _)
end Go.Proofs.YtdmfjnohkpiaiaaDoor
