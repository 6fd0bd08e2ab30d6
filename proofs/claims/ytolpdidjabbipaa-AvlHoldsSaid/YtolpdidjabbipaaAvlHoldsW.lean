/- The walk of the law AvlHolds. -/
import Derived.Test.YtolpdidjabbipaaAvlHoldsM
import Derived.Test.YtolpdidjabbipaaTake
namespace Go.Proofs.Ytolpdidjabbipaa
open Go.RowKit
set_option linter.unusedVariables false

theorem infoPair : (Try.prog.info? 50).map (fun i => (i.zero, i.size, i.bytes)) = some (some (.agg #[.slice none 0 0, .slice none 0 0]), 2, 48) := by kernel_rfl
theorem infoDeed : (Try.prog.info? 48).map (·.size) = some 3 := by kernel_rfl
theorem zero_sl : ∀ u ∈ (Value.agg #[.slice none 0 0, .slice none 0 0]).cells, isSl u := fun u hu => by
  simp [Value.cells] at hu
  subst hu
  exact ⟨_, _, _, rfl⟩

set_option maxRecDepth 100000 in
set_option maxHeartbeats 8000000 in
theorem avlHolds_law (la : Option Addr) (n cap : Nat) (D : Nat → DH) (w : World) (hin : InRec recD w la n cap D) (hkv : ∀ i, i < n → ∃ key val, InBytes w (D i).ka (D i).kn (D i).kc key ∧ InBytes w (D i).va (D i).vn (D i).vc val) :
    Calls Try.prog 7 #[.slice la n cap] w (Says w (.bool true)) := by
  have HIN := Lib.hid hin
  have HKVS := Lib.hid hkv
  clear hin hkv
  obtain ⟨ti, hti, htz⟩ := Option.map_eq_some_iff.1 infoPair
  simp only [Prod.mk.injEq] at htz
  obtain ⟨hz0, hz1, hz2⟩ := htz
  have HTI := Lib.hid (And.intro hti (And.intro hz0 (And.intro hz1 hz2)))
  clear hti hz0 hz1 hz2
  go_enter Try.func7, Try.ntmps7
  go_upto_region 3 with (first
    | (go_at_call 8
       refine (up5_any _).mono ?_
       rintro _ w1 ⟨rfl, hb1⟩
       have HB1 := Lib.hid hb1
       clear hb1)
    | (refine wpList_store_box rfl 25 (.tmp 4) (.tmp 21) rfl w1.heap.size hZ hZ rfl rfl 25 (Box.new w1 25 hZ) infoTree5 ?_
       intro w2 hbx hg
       have qq : Below w1.heap.size w1 w2 := ((Below.refl w1.heap.size w1).alloc (Nat.le_refl _) _).grown hg (by simp) (fun j hj => by injection hj; omega)
       have HW0 : Hid (HW w w2 w1.heap.size hZ .nil (.slice none 0 0) [] [] 0) := Lib.hid ⟨HB1.out.trans (qq.mono HB1.out.size), hbx, HB1.out.size, inTree_nil w2, OwnR.nil _ _ _ _, PairsIn.nil _, Good.nil, List.Perm.nil, Nat.le_refl _⟩
       clear hbx hg qq))
  generalize w1.heap.size = g4 at *
  go_wp2_with fail
  go_loopw [5, 6] (fun s5 s6 wx => ∃ (i : Nat) (pa : Option Addr) (m pc : Nat) (ps : List PH) (kvs : List KV) (ht : TH) (a : AT), i ≤ n ∧ i ≤ 40 ∧ s5 = .slice pa m pc ∧ ps.length = m ∧ s6 = .int .i64 i ∧ HW w wx g4 ht a (.slice pa m pc) ps kvs i) (fun _ s6 _ => n - (intOf s6).toNat)
  case atStart => exact ⟨0, none, 0, 0, [], [], hZ, .nil, by omega, by omega, rfl, rfl, rfl, HW0.out⟩
  case round =>
    clear HW0 HB1
    obtain ⟨wo, rfl⟩ : ∃ wo : World, wo = wr := ⟨_, rfl⟩
    obtain ⟨i, pa, m, pc, ps, kvs, ht, a, hi1, hi2, rfl, hpl, rfl, hw⟩ := hrel
    have hm40 : m ≤ 40 := by have h1 := hw.len.1; have := hw.cnt; omega
    by_cases c1 : i < n
    · have q1 : (i : Int) < (n : Int) := by omega
      by_cases c2 : i < 40
      · have q2 : (i : Int) < 40 := by omega
        obtain ⟨key, val, hk, hv⟩ := HKVS.out i c1
        have HKV := Lib.hid (And.intro hk hv)
        have hkl := hk.len
        have hvl := hv.len
        obtain ⟨gl, off, hla, -, hcs⟩ := (HIN.out.below hw.b).at (by omega)
        have y0 : wo.cell? ⟨gl, off + i * 3, none⟩ = some (.slice (D i).ka (D i).kn (D i).kc) := hcs i c1 0 _ rfl
        have y1 : wo.cell? ⟨gl, off + i * 3 + 1, none⟩ = some (.slice (D i).va (D i).vn (D i).vc) := hcs i c1 1 _ rfl
        have y2 : wo.cell? ⟨gl, off + i * 3 + 2, none⟩ = some (.bool (D i).out) := hcs i c1 2 _ rfl
        have HWO := Lib.hid hw
        clear hcs hw hk hv
        rw [hla]
        have HLA := Lib.hid hla
        clear hla
        go_upto_region 8 with (first
          | (refine wpList_store_rec rfl 48 (.tmp 7) (.tmp 35) rfl recD wo.heap.size dZ (D i) rfl rfl 48 (heap_alloc_new wo _) infoDeed ?_
             intro w3 hbx hg
             have qq : Below wo.heap.size wo w3 := ((Below.refl wo.heap.size wo).alloc (Nat.le_refl _) _).grown hg (by simp) (fun j hj => by injection hj; omega)
             have HA3 := Lib.hid (HWO.out.below qq)
             have HD3 : Hid (RBox recD w3 48 wo.heap.size (D i)) := Lib.hid hbx
             have HG3 : Hid (g4 < w3.heap.size ∧ w.heap.size ≤ w3.heap.size) := Lib.hid ⟨HA3.out.box.lt, HA3.out.b.size⟩
             clear hbx hg qq y0 y1 y2))
        obtain ⟨z0, z1, z2⟩ : w3.cell? ⟨wo.heap.size, 0, none⟩ = some (.slice (D i).ka (D i).kn (D i).kc) ∧ w3.cell? ⟨wo.heap.size, 1, none⟩ = some (.slice (D i).va (D i).vn (D i).vc) ∧ w3.cell? ⟨wo.heap.size, 2, none⟩ = some (.bool (D i).out) := ⟨HD3.out.cell 0 _ rfl, HD3.out.cell 1 _ rfl, HD3.out.cell 2 _ rfl⟩
        have hgd4 : g4 < wo.heap.size := HWO.out.box.lt
        clear HWO
        generalize wo.heap.size = gd at *
        by_cases c3 : 80 < (D i).kn
        · have q3 : (80 : Int) < ((D i).kn : Int) := by omega
          go_wp2_with fail
          exact ⟨⟨i + 1, pa, m, pc, ps, kvs, ht, a, by omega, by omega, rfl, hpl, by go_num, HA3.out.more (by omega)⟩, by simp [intOf]; omega⟩
        · have q3 : ¬ (80 : Int) < ((D i).kn : Int) := by omega
          by_cases c4 : 1024 < (D i).vn
          · have q4 : (1024 : Int) < ((D i).vn : Int) := by omega
            go_wp2_with fail
            exact ⟨⟨i + 1, pa, m, pc, ps, kvs, ht, a, by omega, by omega, rfl, hpl, by go_num, HA3.out.more (by omega)⟩, by simp [intOf]; omega⟩
          · have q4 : ¬ (1024 : Int) < ((D i).vn : Int) := by omega
            go_wp2_with fail
            go_loopw [8, 9, 10] (fun s8 s9 s10 wx => ∃ (k : Nat) (ra : Option Addr) (r rc : Nat) (rs : List PH), k ≤ m ∧ s8 = .slice ra r rc ∧ rs.length = r ∧ s9 = .bool ((kvs.take k).any (isK key)) ∧ s10 = .int .i64 k ∧ RW w w3 wx (.slice ra r rc) rs ((kvs.take k).filter (fun p => !isK key p))) (fun _ _ s10 _ => m - (intOf s10).toNat)
            case atStart => exact ⟨0, none, 0, 0, [], by omega, rfl, rfl, rfl, rfl, RW.nil w w3⟩
            case round =>
              obtain ⟨k, ra, r, rc, rs, hk, rfl, hrl, rfl, rfl, hrw⟩ := hrel
              have hkl2 : kvs.length = m := (HA3.out.len.2.trans HA3.out.len.1.symm).trans hpl
              have hr40 : r ≤ 40 := by
                have h1 := hrw.pin.1
                have h2 := List.length_filter_le (fun p => !isK key p) (kvs.take k)
                rw [List.length_take] at h2
                omega
              have HAx := Lib.hid (HA3.out.below hrw.b)
              have HDx := Lib.hid (HD3.out.below hrw.b HD3.out.lt)
              by_cases hlt : k < m
              · have q5 : (k : Int) < (m : Int) := by omega
                have HRx := Lib.hid hrw
                clear hrw
                have hkp : k < ps.length := by omega
                have hkq : k < kvs.length := by omega
                obtain ⟨gp, hgp⟩ := HAx.out.at k hkp
                subst hgp
                have HKS : Hid (kvs[k]? = some kvs[k]) := Lib.hid (List.getElem?_eq_getElem hkq)
                have he : ((strOfNums (kvs[k]).1).toList == (strOfNums key).toList) = ((kvs[k]).1 == key) := str_eq (HAx.out.pin.2 k hkp hkq).1.bytes HKV.out.1.bytes
                have HS14 : Hid ((fun W => W.cell? ⟨gp, k * 2, none⟩ = some (.slice (ps[k]).ka (ps[k]).kn (ps[k]).kc) ∧ W.cell? ⟨gd, 0, none⟩ = some (.slice (D i).ka (D i).kn (D i).kc) ∧ (convert 22 9 (.slice (ps[k]).ka (ps[k]).kn (ps[k]).kc)).run Try.prog W = .ok (.string (strOfNums (kvs[k]).1)) W ∧ (convert 22 9 (.slice (D i).ka (D i).kn (D i).kc)).run Try.prog W = .ok (.string (strOfNums key)) W) wr.drew) := Lib.hid ⟨(HAx.out.drew.cells k hkp).1, HDx.out.cell 0 _ rfl, conv_key ((HAx.out.drew.pin.2 k hkp hkq).1.below HAx.out.drew.b), conv_key (HKV.out.1.below HAx.out.drew.b)⟩
                generalize hany : (kvs.take k).any (isK key) = had
                have HANY := Lib.hid hany
                clear hany
                cases hc : ((kvs[k]).1 == key) with
                | true =>
                  have HC : Hid (isK key kvs[k] = true) := Lib.hid hc
                  rw [hc] at he
                  clear hc
                  go_upto_region 14 with fail
                  refine wp_region_held_drew (S := (fun W => W.cell? ⟨gp, k * 2, none⟩ = some (.slice (ps[k]).ka (ps[k]).kn (ps[k]).kc) ∧ W.cell? ⟨gd, 0, none⟩ = some (.slice (D i).ka (D i).kn (D i).kc) ∧ (convert 22 9 (.slice (ps[k]).ka (ps[k]).kn (ps[k]).kc)).run Try.prog W = .ok (.string (strOfNums (kvs[k]).1)) W ∧ (convert 22 9 (.slice (D i).ka (D i).kn (D i).kc)).run Try.prog W = .ok (.string (strOfNums key)) W)) (by kernel_rfl) HS14.out (fun hHeld => ?_)
                  refine take_w (i := 0) (oi := ?oZ1) (v := ?vZ1) ?hiZ1 (by kernel_rfl) (by kernel_rfl) (by kernel_rfl) ?hQZ1 ?hwZ1 ?hyZ1 (by assumption) ?restZ1
                  case hiZ1 => (simp only [List.getElem?_toArray, List.getElem?_cons_zero] <;> rfl)
                  case hQZ1 => exact (fun _ _ _ h => h)
                  case hwZ1 => rfl
                  case hyZ1 => (intro w hSw; (try dsimp only at hSw); go_simp; try with_reducible rfl)
                  (try simp only [Act.put, List.setIfInBounds_toArray, List.set_cons_zero, List.set_cons_succ])
                  refine take_w (i := 1) (oi := ?oZ2) (v := ?vZ2) ?hiZ2 (by kernel_rfl) (by kernel_rfl) (by kernel_rfl) ?hQZ2 ?hwZ2 ?hyZ2 (by assumption) ?restZ2
                  case hiZ2 => (simp only [List.getElem?_toArray, List.getElem?_cons_succ, List.getElem?_cons_zero] <;> rfl)
                  case hQZ2 => exact (fun _ _ _ h => h)
                  case hwZ2 => rfl
                  case hyZ2 => (intro w hSw; (try dsimp only at hSw); go_simp; try with_reducible rfl)
                  (try simp only [Act.put, List.setIfInBounds_toArray, List.set_cons_zero, List.set_cons_succ])
                  refine take_w (i := 2) (oi := ?oZ3) (v := ?vZ3) ?hiZ3 (by kernel_rfl) (by kernel_rfl) (by kernel_rfl) ?hQZ3 ?hwZ3 ?hyZ3 (by assumption) ?restZ3
                  case hiZ3 => (simp only [List.getElem?_toArray, List.getElem?_cons_succ, List.getElem?_cons_zero] <;> rfl)
                  case hQZ3 => exact (fun _ _ _ h => h)
                  case hwZ3 => rfl
                  case hyZ3 => (intro w hSw; (try dsimp only at hSw); go_simp; try with_reducible rfl)
                  (try simp only [Act.put, List.setIfInBounds_toArray, List.set_cons_zero, List.set_cons_succ])
                  refine take_w (i := 3) (oi := ?oZ4) (v := ?vZ4) ?hiZ4 (by kernel_rfl) (by kernel_rfl) (by kernel_rfl) ?hQZ4 ?hwZ4 ?hyZ4 (by assumption) ?restZ4
                  case hiZ4 => (simp only [List.getElem?_toArray, List.getElem?_cons_succ, List.getElem?_cons_zero] <;> rfl)
                  case hQZ4 => exact (fun _ _ _ h => h)
                  case hwZ4 => rfl
                  case hyZ4 => (intro w hSw; (try dsimp only at hSw); go_simp; try with_reducible rfl)
                  (try simp only [Act.put, List.setIfInBounds_toArray, List.set_cons_zero, List.set_cons_succ])
                  refine take_w (i := 4) (oi := ?oZ5) (v := ?vZ5) ?hiZ5 (by kernel_rfl) (by kernel_rfl) (by kernel_rfl) ?hQZ5 ?hwZ5 ?hyZ5 (by assumption) ?restZ5
                  case hiZ5 => (simp only [List.getElem?_toArray, List.getElem?_cons_succ, List.getElem?_cons_zero] <;> rfl)
                  case hQZ5 => exact (fun _ _ _ h => h)
                  case hwZ5 => rfl
                  case hyZ5 => (intro w hSw; (try dsimp only at hSw); go_simp; try with_reducible rfl)
                  (try simp only [Act.put, List.setIfInBounds_toArray, List.set_cons_zero, List.set_cons_succ])
                  refine take_w (i := 5) (oi := ?oZ6) (v := ?vZ6) ?hiZ6 (by kernel_rfl) (by kernel_rfl) (by kernel_rfl) ?hQZ6 ?hwZ6 ?hyZ6 (by assumption) ?restZ6
                  case hiZ6 => (simp only [List.getElem?_toArray, List.getElem?_cons_succ, List.getElem?_cons_zero] <;> rfl)
                  case hQZ6 => exact (fun _ _ _ h => h)
                  case hwZ6 => rfl
                  case hyZ6 => (intro w hSw; (try dsimp only at hSw); go_simp; try with_reducible rfl)
                  (try simp only [Act.put, List.setIfInBounds_toArray, List.set_cons_zero, List.set_cons_succ])
                  refine take_w (i := 6) (oi := ?oZ7) (v := ?vZ7) ?hiZ7 (by kernel_rfl) (by kernel_rfl) (by kernel_rfl) ?hQZ7 ?hwZ7 ?hyZ7 (by assumption) ?restZ7
                  case hiZ7 => (simp only [List.getElem?_toArray, List.getElem?_cons_succ, List.getElem?_cons_zero] <;> rfl)
                  case hQZ7 => exact (fun _ _ _ h => h)
                  case hwZ7 => rfl
                  case hyZ7 => (intro w hSw; (try dsimp only at hSw); go_simp; try with_reducible rfl)
                  (try simp only [Act.put, List.setIfInBounds_toArray, List.set_cons_zero, List.set_cons_succ])
                  refine take_w (i := 7) (oi := ?oZ8) (v := ?vZ8) ?hiZ8 (by kernel_rfl) (by kernel_rfl) (by kernel_rfl) ?hQZ8 ?hwZ8 ?hyZ8 (by assumption) ?restZ8
                  case hiZ8 => (simp only [List.getElem?_toArray, List.getElem?_cons_succ, List.getElem?_cons_zero] <;> rfl)
                  case hQZ8 => exact (fun _ _ _ h => h)
                  case hwZ8 => rfl
                  case hyZ8 => (intro w hSw; (try dsimp only at hSw); go_simp; try with_reducible rfl)
                  (try simp only [Act.put, List.setIfInBounds_toArray, List.set_cons_zero, List.set_cons_succ])
                  refine take_w (i := 8) (oi := ?oZ9) (v := ?vZ9) ?hiZ9 (by kernel_rfl) (by kernel_rfl) (by kernel_rfl) ?hQZ9 ?hwZ9 ?hyZ9 (by assumption) ?restZ9
                  case hiZ9 => (simp only [List.getElem?_toArray, List.getElem?_cons_succ, List.getElem?_cons_zero] <;> rfl)
                  case hQZ9 => exact (fun _ _ _ h => h)
                  case hwZ9 => rfl
                  case hyZ9 => (intro w hSw; (try dsimp only at hSw); go_simp; try with_reducible rfl)
                  (try simp only [Act.put, List.setIfInBounds_toArray, List.set_cons_zero, List.set_cons_succ])
                  refine take_w (i := 9) (oi := ?oZ10) (v := ?vZ10) ?hiZ10 (by kernel_rfl) (by kernel_rfl) (by kernel_rfl) ?hQZ10 ?hwZ10 ?hyZ10 (by assumption) ?restZ10
                  case hiZ10 => (simp only [List.getElem?_toArray, List.getElem?_cons_succ, List.getElem?_cons_zero] <;> rfl)
                  case hQZ10 => exact (fun _ _ _ h => h)
                  case hwZ10 => rfl
                  case hyZ10 => (intro w hSw; (try dsimp only at hSw); go_simp; try with_reducible rfl)
                  (try simp only [Act.put, List.setIfInBounds_toArray, List.set_cons_zero, List.set_cons_succ])
                  refine wpAnyH_done (by kernel_rfl) ?_ _
                  clear hHeld
                  clear HS14
                  go_wp2_with fail
                  exact ⟨⟨k + 1, ra, r, rc, rs, by omega, rfl, hrl, by rw [any_hit HKS.out HC.out], by go_num, by rw [filter_hit HKS.out HC.out]; exact HRx.out.drew⟩, by simp [intOf]; omega⟩
                | false =>
                  have HC : Hid (isK key kvs[k] = false) := Lib.hid hc
                  rw [hc] at he
                  clear hc
                  go_upto_region 14 with fail
                  refine wp_region_held_drew (S := (fun W => W.cell? ⟨gp, k * 2, none⟩ = some (.slice (ps[k]).ka (ps[k]).kn (ps[k]).kc) ∧ W.cell? ⟨gd, 0, none⟩ = some (.slice (D i).ka (D i).kn (D i).kc) ∧ (convert 22 9 (.slice (ps[k]).ka (ps[k]).kn (ps[k]).kc)).run Try.prog W = .ok (.string (strOfNums (kvs[k]).1)) W ∧ (convert 22 9 (.slice (D i).ka (D i).kn (D i).kc)).run Try.prog W = .ok (.string (strOfNums key)) W)) (by kernel_rfl) HS14.out (fun hHeld => ?_)
                  refine take_w (i := 0) (oi := ?oZ11) (v := ?vZ11) ?hiZ11 (by kernel_rfl) (by kernel_rfl) (by kernel_rfl) ?hQZ11 ?hwZ11 ?hyZ11 (by assumption) ?restZ11
                  case hiZ11 => (simp only [List.getElem?_toArray, List.getElem?_cons_zero] <;> rfl)
                  case hQZ11 => exact (fun _ _ _ h => h)
                  case hwZ11 => rfl
                  case hyZ11 => (intro w hSw; (try dsimp only at hSw); go_simp; try with_reducible rfl)
                  (try simp only [Act.put, List.setIfInBounds_toArray, List.set_cons_zero, List.set_cons_succ])
                  refine take_w (i := 1) (oi := ?oZ12) (v := ?vZ12) ?hiZ12 (by kernel_rfl) (by kernel_rfl) (by kernel_rfl) ?hQZ12 ?hwZ12 ?hyZ12 (by assumption) ?restZ12
                  case hiZ12 => (simp only [List.getElem?_toArray, List.getElem?_cons_succ, List.getElem?_cons_zero] <;> rfl)
                  case hQZ12 => exact (fun _ _ _ h => h)
                  case hwZ12 => rfl
                  case hyZ12 => (intro w hSw; (try dsimp only at hSw); go_simp; try with_reducible rfl)
                  (try simp only [Act.put, List.setIfInBounds_toArray, List.set_cons_zero, List.set_cons_succ])
                  refine take_w (i := 2) (oi := ?oZ13) (v := ?vZ13) ?hiZ13 (by kernel_rfl) (by kernel_rfl) (by kernel_rfl) ?hQZ13 ?hwZ13 ?hyZ13 (by assumption) ?restZ13
                  case hiZ13 => (simp only [List.getElem?_toArray, List.getElem?_cons_succ, List.getElem?_cons_zero] <;> rfl)
                  case hQZ13 => exact (fun _ _ _ h => h)
                  case hwZ13 => rfl
                  case hyZ13 => (intro w hSw; (try dsimp only at hSw); go_simp; try with_reducible rfl)
                  (try simp only [Act.put, List.setIfInBounds_toArray, List.set_cons_zero, List.set_cons_succ])
                  refine take_w (i := 3) (oi := ?oZ14) (v := ?vZ14) ?hiZ14 (by kernel_rfl) (by kernel_rfl) (by kernel_rfl) ?hQZ14 ?hwZ14 ?hyZ14 (by assumption) ?restZ14
                  case hiZ14 => (simp only [List.getElem?_toArray, List.getElem?_cons_succ, List.getElem?_cons_zero] <;> rfl)
                  case hQZ14 => exact (fun _ _ _ h => h)
                  case hwZ14 => rfl
                  case hyZ14 => (intro w hSw; (try dsimp only at hSw); go_simp; try with_reducible rfl)
                  (try simp only [Act.put, List.setIfInBounds_toArray, List.set_cons_zero, List.set_cons_succ])
                  refine take_w (i := 4) (oi := ?oZ15) (v := ?vZ15) ?hiZ15 (by kernel_rfl) (by kernel_rfl) (by kernel_rfl) ?hQZ15 ?hwZ15 ?hyZ15 (by assumption) ?restZ15
                  case hiZ15 => (simp only [List.getElem?_toArray, List.getElem?_cons_succ, List.getElem?_cons_zero] <;> rfl)
                  case hQZ15 => exact (fun _ _ _ h => h)
                  case hwZ15 => rfl
                  case hyZ15 => (intro w hSw; (try dsimp only at hSw); go_simp; try with_reducible rfl)
                  (try simp only [Act.put, List.setIfInBounds_toArray, List.set_cons_zero, List.set_cons_succ])
                  refine take_w (i := 5) (oi := ?oZ16) (v := ?vZ16) ?hiZ16 (by kernel_rfl) (by kernel_rfl) (by kernel_rfl) ?hQZ16 ?hwZ16 ?hyZ16 (by assumption) ?restZ16
                  case hiZ16 => (simp only [List.getElem?_toArray, List.getElem?_cons_succ, List.getElem?_cons_zero] <;> rfl)
                  case hQZ16 => exact (fun _ _ _ h => h)
                  case hwZ16 => rfl
                  case hyZ16 => (intro w hSw; (try dsimp only at hSw); go_simp; try with_reducible rfl)
                  (try simp only [Act.put, List.setIfInBounds_toArray, List.set_cons_zero, List.set_cons_succ])
                  refine take_w (i := 6) (oi := ?oZ17) (v := ?vZ17) ?hiZ17 (by kernel_rfl) (by kernel_rfl) (by kernel_rfl) ?hQZ17 ?hwZ17 ?hyZ17 (by assumption) ?restZ17
                  case hiZ17 => (simp only [List.getElem?_toArray, List.getElem?_cons_succ, List.getElem?_cons_zero] <;> rfl)
                  case hQZ17 => exact (fun _ _ _ h => h)
                  case hwZ17 => rfl
                  case hyZ17 => (intro w hSw; (try dsimp only at hSw); go_simp; try with_reducible rfl)
                  (try simp only [Act.put, List.setIfInBounds_toArray, List.set_cons_zero, List.set_cons_succ])
                  refine take_w (i := 7) (oi := ?oZ18) (v := ?vZ18) ?hiZ18 (by kernel_rfl) (by kernel_rfl) (by kernel_rfl) ?hQZ18 ?hwZ18 ?hyZ18 (by assumption) ?restZ18
                  case hiZ18 => (simp only [List.getElem?_toArray, List.getElem?_cons_succ, List.getElem?_cons_zero] <;> rfl)
                  case hQZ18 => exact (fun _ _ _ h => h)
                  case hwZ18 => rfl
                  case hyZ18 => (intro w hSw; (try dsimp only at hSw); go_simp; try with_reducible rfl)
                  (try simp only [Act.put, List.setIfInBounds_toArray, List.set_cons_zero, List.set_cons_succ])
                  refine take_w (i := 8) (oi := ?oZ19) (v := ?vZ19) ?hiZ19 (by kernel_rfl) (by kernel_rfl) (by kernel_rfl) ?hQZ19 ?hwZ19 ?hyZ19 (by assumption) ?restZ19
                  case hiZ19 => (simp only [List.getElem?_toArray, List.getElem?_cons_succ, List.getElem?_cons_zero] <;> rfl)
                  case hQZ19 => exact (fun _ _ _ h => h)
                  case hwZ19 => rfl
                  case hyZ19 => (intro w hSw; (try dsimp only at hSw); go_simp; try with_reducible rfl)
                  (try simp only [Act.put, List.setIfInBounds_toArray, List.set_cons_zero, List.set_cons_succ])
                  refine take_w (i := 9) (oi := ?oZ20) (v := ?vZ20) ?hiZ20 (by kernel_rfl) (by kernel_rfl) (by kernel_rfl) ?hQZ20 ?hwZ20 ?hyZ20 (by assumption) ?restZ20
                  case hiZ20 => (simp only [List.getElem?_toArray, List.getElem?_cons_succ, List.getElem?_cons_zero] <;> rfl)
                  case hQZ20 => exact (fun _ _ _ h => h)
                  case hwZ20 => rfl
                  case hyZ20 => (intro w hSw; (try dsimp only at hSw); go_simp; try with_reducible rfl)
                  (try simp only [Act.put, List.setIfInBounds_toArray, List.set_cons_zero, List.set_cons_succ])
                  refine wpAnyH_done (by kernel_rfl) ?_ _
                  clear hHeld
                  clear HS14
                  obtain ⟨y0, y1⟩ := HAx.out.drew.cells k hkp
                  go_wp2_with (first
                    | (at_builtin
                       have qa : Below wr.drew.heap.size wr.drew (wr.drew.alloc (.cells #[.slice (ps[k]).ka (ps[k]).kn (ps[k]).kc, .slice (ps[k]).va (ps[k]).vn (ps[k]).vc] 50)) := (Below.refl _ _).alloc (Nat.le_refl _) _
                       refine wpList_append_rec _ rfl (.tmp 62) (.tmp 67) 46 rfl recP w3.heap.size 50 ti _ 48 Try.underlying46 HTI.out.1 HTI.out.2.1 HTI.out.2.2.1 HTI.out.2.2.2 rfl (.slice ra r rc) rs rfl (HRx.out.drew.below qa).row wr.heap.size 1 (ps[k]) rfl (RBox.cell (c := recP) (r := ps[k]) (heap_alloc_new wr.drew _)) ?_ (by omega) (HRx.out.drew.below qa).b.size ?_
                       · rw [hrl]
                         omega
                       intro v5 w5 ho5 hg5 _ ha5
                       obtain ⟨ra5, rc5, hv5⟩ := ho5.sl
                       have hlen5 : (rs ++ [ps[k]]).length = r + 1 := by simp [hrl]
                       rw [hlen5] at hv5
                       subst hv5
                       have HR5 : Hid (RW w w3 w5 (.slice ra5 (r + 1) rc5) (rs ++ [ps[k]]) ((kvs.take (k + 1)).filter (fun p => !isK key p))) := Lib.hid ⟨(HRx.out.drew.below qa).b.grown hg5 (HRx.out.drew.below qa).b.size (fun j hj => ((HRx.out.drew.below qa).row.base_le hj).1), ho5, ha5 isSl (HRx.out.drew.below qa).all (recP_sl _) zero_sl, by rw [filter_miss HKS.out HC.out]; exact HRx.out.pin.snoc (HAx.out.pin.2 k hkp hkq).1 (HAx.out.pin.2 k hkp hkq).2⟩
                       have HLE5 := Lib.hid hlen5
                       clear ho5 hg5 ha5 qa hlen5 y0 y1))
                  exact ⟨⟨k + 1, ra5, r + 1, rc5, _, by omega, rfl, HLE5.out, by rw [any_miss HKS.out HC.out, HANY.out], by go_num, HR5.out⟩, by simp [intOf]; omega⟩
              · obtain rfl : k = m := by omega
                have q5 : ¬ (k : Int) < (k : Int) := by omega
                have htk : kvs.take k = kvs := List.take_of_length_le (by omega)
                rw [htk] at hrw
                have HRx := Lib.hid hrw
                rw [htk]
                clear htk hrw hlt
                obtain ⟨z0, z1, z2⟩ : wr.cell? ⟨gd, 0, none⟩ = some (.slice (D i).ka (D i).kn (D i).kc) ∧ wr.cell? ⟨gd, 1, none⟩ = some (.slice (D i).va (D i).vn (D i).vc) ∧ wr.cell? ⟨gd, 2, none⟩ = some (.bool (D i).out) := ⟨HDx.out.cell 0 _ rfl, HDx.out.cell 1 _ rfl, HDx.out.cell 2 _ rfl⟩
                have HQ := Lib.hid hrl
                clear hrl
                obtain ⟨x0, x1, x2, x3, x4⟩ := HAx.out.box.cells
                cases hout : (D i).out with
                | true =>
                  rw [hout] at z2
                  have hng : (!((a.get key).isSome == kvs.any (isK key))) = false := by rw [get_any HAx.out.perm key]; simp
                  go_wp2_with (first
                    | (go_at_call 19
                       refine (del_ok a ht key (D i).ka (D i).kn (D i).kc _ HAx.out.ti (HKV.out.1.below HAx.out.b) (good_bad HAx.out.good (by have := HAx.out.cnt; omega) (by omega) (by omega))).mono ?_
                       rintro _ w6 ⟨h6, rfl, hi6, hb6⟩
                       have HAw6 := Lib.hid (HAx.out.below hb6)
                       have HRw6 := Lib.hid (HRx.out.below hb6)
                       have HIw6 := Lib.hid hi6
                       clear hi6 hb6 x0 x1 x2 x3 x4 z0 z1 z2)
                    | (refine wpList_store_box rfl 25 (.tmp 11) (.tmp 76) rfl w6.heap.size hZ h6 rfl rfl 25 (Box.new w6 25 hZ) infoTree5 ?_
                       intro w7 hbx hg
                       have qq : Below w6.heap.size w6 w7 := ((Below.refl w6.heap.size w6).alloc (Nat.le_refl _) _).grown hg (by simp) (fun j hj => by injection hj; omega)
                       have HAw7 := Lib.hid (HAw6.out.below qq)
                       have HRw7 := Lib.hid (HRw6.out.below qq)
                       have HIw7 := Lib.hid (HIw6.out.lower qq)
                       have HXw7 := Lib.hid hbx
                       obtain ⟨x0, x1, x2, x3, x4⟩ := hbx.cells
                       clear hbx hg qq)
                    | (refine wpList_store_box rfl 25 (.tmp 4) (.tmp 86) rfl g4 ht h6 rfl rfl 25 HAw7.out.box infoTree5 ?_
                       intro w8 hbx hg
                       have HW8 : Hid (HW w w8 g4 h6 (a.del key) (.slice ra r rc) rs (kvs.filter (fun p => !isK key p)) (i + 1)) := Lib.hid (HAw7.out.store HRw7.out HG3.out.1 HG3.out.2 HIw7.out hbx hg (HAw7.out.good.del key) (del_perm HAw7.out.good HAw7.out.perm key) (by have h1 := AT.del_len key HAw7.out.good.rise; have := HAw7.out.cnt; omega))
                       clear hbx hg x0 x1 x2 x3 x4))
                  exact ⟨⟨i + 1, ra, r, rc, rs, _, h6, _, by omega, by omega, rfl, HQ.out, by go_num, HW8.out⟩, by simp [intOf]; omega⟩
                | false =>
                  rw [hout] at z2
                  go_wp2_with (first
                    | (go_at_call 16
                       refine (put_ok a ht key val (D i).ka (D i).va (D i).kn (D i).kc (D i).vn (D i).vc _ HAx.out.ti (HKV.out.1.below HAx.out.b) (HKV.out.2.below HAx.out.b) (good_bad HAx.out.good (by have := HAx.out.cnt; omega) (by omega) (by omega))).mono ?_
                       rintro _ w6 ⟨h6, rfl, hi6, hb6⟩
                       have HAw6 := Lib.hid (HAx.out.below hb6)
                       have HRw6 := Lib.hid (HRx.out.below hb6)
                       have HIw6 := Lib.hid hi6
                       have HDw6 := Lib.hid (HDx.out.below hb6 HDx.out.lt)
                       clear hi6 hb6 x0 x1 x2 x3 x4 z0 z1 z2)
                    | (refine wpList_store_box rfl 25 (.tmp 14) (.tmp 94) rfl w6.heap.size hZ h6 rfl rfl 25 (Box.new w6 25 hZ) infoTree5 ?_
                       intro w7 hbx hg
                       have qq : Below w6.heap.size w6 w7 := ((Below.refl w6.heap.size w6).alloc (Nat.le_refl _) _).grown hg (by simp) (fun j hj => by injection hj; omega)
                       have HAw7 := Lib.hid (HAw6.out.below qq)
                       have HRw7 := Lib.hid (HRw6.out.below qq)
                       have HIw7 := Lib.hid (HIw6.out.lower qq)
                       have HXw7 := Lib.hid hbx
                       obtain ⟨x0, x1, x2, x3, x4⟩ := hbx.cells
                       have HDw7 := Lib.hid (HDw6.out.below qq HDw6.out.lt)
                       clear hbx hg qq)
                    | (refine wpList_store_box rfl 25 (.tmp 4) (.tmp 98) rfl g4 ht h6 rfl rfl 25 HAw7.out.box infoTree5 ?_
                       intro w8 hbx hg
                       have HP8 : Hid (PW w w8 g4 h6 (a.put key val) (.slice ra r rc) rs (kvs.filter (fun p => !isK key p))) := Lib.hid (PW.of HAw7.out HRw7.out HG3.out.1 HG3.out.2 HIw7.out hbx hg)
                       have hd8 := HDw7.out.grown hg (fun q => by injection q with q; omega)
                       obtain ⟨z0, z1⟩ : w8.cell? ⟨gd, 0, none⟩ = some (.slice (D i).ka (D i).kn (D i).kc) ∧ w8.cell? ⟨gd, 1, none⟩ = some (.slice (D i).va (D i).vn (D i).vc) := ⟨hd8.cell 0 _ rfl, hd8.cell 1 _ rfl⟩
                       have HGP := Lib.hid (And.intro HAw7.out.good (And.intro HAw7.out.perm HAw7.out.cnt))
                       clear hbx hg hd8 x0 x1 x2 x3 x4)
                    | (at_builtin
                       have qa : Below w8.heap.size w8 (w8.alloc (.cells #[.slice (D i).ka (D i).kn (D i).kc, .slice (D i).va (D i).vn (D i).vc] 50)) := (Below.refl _ _).alloc (Nat.le_refl _) _
                       refine wpList_append_rec _ rfl (.tmp 99) (.tmp 105) 46 rfl recP w.heap.size 50 ti _ 48 Try.underlying46 HTI.out.1 HTI.out.2.1 HTI.out.2.2.1 HTI.out.2.2.2 rfl (.slice ra r rc) rs rfl (HP8.out.below qa).row w8.heap.size 1 (⟨(D i).ka, (D i).kn, (D i).kc, (D i).va, (D i).vn, (D i).vc⟩ : PH) rfl (RBox.cell (c := recP) (r := (⟨(D i).ka, (D i).kn, (D i).kc, (D i).va, (D i).vn, (D i).vc⟩ : PH)) (heap_alloc_new w8 _)) ?_ (by omega) (HP8.out.below qa).b.size ?_
                       · rw [HQ.out]
                         omega
                       intro v9 w9 ho9 hg9 _ _
                       obtain ⟨ra9, rc9, hv9⟩ := ho9.sl
                       have hlen9 : (rs ++ [(⟨(D i).ka, (D i).kn, (D i).kc, (D i).va, (D i).vn, (D i).vc⟩ : PH)]).length = r + 1 := by simp [HQ.out]
                       rw [hlen9] at hv9
                       subst hv9
                       have HW9 : Hid (HW w w9 g4 h6 (a.put key val) (.slice ra9 (r + 1) rc9) (rs ++ [(⟨(D i).ka, (D i).kn, (D i).kc, (D i).va, (D i).vn, (D i).vc⟩ : PH)]) (kvs.filter (fun p => !isK key p) ++ [(key, val)]) (i + 1)) := Lib.hid ((HP8.out.below qa).add hg9 ho9 (HP8.out.pin.snoc HKV.out.1 HKV.out.2) (HGP.out.1.put (by omega) (by omega)) (put_perm2 HGP.out.1 HGP.out.2.1 key val) (by have h1 := AT.put_len key val HGP.out.1.rise; have := HGP.out.2.2; omega))
                       have HLE9 := Lib.hid hlen9
                       clear ho9 hg9 qa hlen9 z0 z1))
                  exact ⟨⟨i + 1, ra9, r + 1, rc9, _, _, h6, _, by omega, by omega, rfl, HLE9.out, by go_num, HW9.out⟩, by simp [intOf]; omega⟩
      · have q2 : ¬ (i : Int) < 40 := by omega
        have HW2 := Lib.hid hw
        clear hw
        have HL2 := HW2
        have hgi : isT a.tr = true := HW2.out.good.is (by have := HW2.out.cnt; omega)
        have hln : (listT a.tr).length = m := by rw [AT.list_pairs, ← HW2.out.len.1]; exact hpl
        have hfo : formedT a.tr = true := (AT.tr_formed a).2 HW2.out.good.lim
        have hct : countT a.tr ≤ 500 := by rw [AT.count]; have := HW2.out.cnt; omega
        have HLN := Lib.hid (And.intro hln (And.intro hfo (And.intro hct hgi)))
        clear hgi hln hfo hct
        have hmm : ((m : Int) != (m : Int)) = false := by simp
        obtain ⟨x0, x1, x2, x3, x4⟩ := HW2.out.box.cells
        go_upto_region 30 with (first
          | (go_at_call 10
             refine (is_any a.tr ht _ HW2.out.ti).mono ?_
             rw [HLN.out.2.2.2]
             rintro _ w6 ⟨rfl, hb6⟩
             have HL6 := Lib.hid (HW2.out.below hb6)
             clear x0 x1 x2 x3 x4
             obtain ⟨x0, x1, x2, x3, x4⟩ := HL6.out.box.cells
             clear hb6)
          | (go_at_call 21
             refine (refList_any a.tr ht _ _ HL6.out.ti (Below.refl _ _) HLN.out.2.1 HLN.out.2.2.1).mono ?_
             rintro _ w7 ⟨v7, hs7, rfl, ho7, hh7, hb7⟩
             obtain ⟨la, lc, hv7⟩ := ho7.sl
             rw [hh7.1, HLN.out.1] at hv7
             subst hv7
             have HL7 := Lib.hid (HL6.out.below hb7)
             clear ho7 hh7 hb7 x0 x1 x2 x3 x4))
        clear HL2 HL6 HW2
        go_wp2_with fail
        go_loopw [16] (fun s16 wx => ∃ k : Nat, k ≤ m ∧ s16 = .int .i64 k ∧ HW w wx g4 ht a (.slice pa m pc) ps kvs i) (fun s16 _ => m - (intOf s16).toNat)
        case atStart => exact ⟨0, by omega, rfl, HL7.out⟩
        case round =>
          clear HL7
          obtain ⟨k, hk, rfl, hl⟩ := hrel
          by_cases hlt : k < m
          · have q1 : (k : Int) < (m : Int) := by omega
            have hkp : k < ps.length := by omega
            have hkq : k < kvs.length := by rw [← hl.pin.1]; exact hkp
            obtain ⟨gp, hgp⟩ := hl.at k hkp
            subst hgp
            have hmem : kvs[k] ∈ a.pairs := hl.perm.mem_iff.1 (List.getElem_mem hkq)
            have HGT := Lib.hid (get_of_mem hl.good hmem)
            have HBD : Hid (badA a.tr (ps[k]).kn 0 = 0) := Lib.hid (good_bad hl.good (by have := hl.cnt; omega) (by
              have h1 := (hl.good.lim _ hmem).1
              have h2 := (hl.pin.2 k hkp hkq).1.len
              omega) (by omega))
            have HL := Lib.hid hl
            clear hl hmem
            go_upto_region 33 with fail
            refine wp_region_held_drew (S := (fun W => (W.cell? ⟨g4, 0, none⟩ = some (.int .i64 ht.k) ∧ W.cell? ⟨g4, 1, none⟩ = some (.slice ht.ka ht.kn ht.kc) ∧ W.cell? ⟨g4, 2, none⟩ = some (.slice ht.va ht.vn ht.vc) ∧ W.cell? ⟨g4, 3, none⟩ = some (.slice ht.da ht.dn ht.dc) ∧ W.cell? ⟨g4, 4, none⟩ = some (.slice ht.ta ht.tn ht.tc)) ∧ W.cell? ⟨gp, k * 2, none⟩ = some (.slice (ps[k]).ka (ps[k]).kn (ps[k]).kc))) (by kernel_rfl) ⟨HL.out.drew.box.cells, (HL.out.drew.cells k hkp).1⟩ (fun hHeld => ?_)
            refine take_w (i := 0) (oi := ?oZ21) (v := ?vZ21) ?hiZ21 (by kernel_rfl) (by kernel_rfl) (by kernel_rfl) ?hQZ21 ?hwZ21 ?hyZ21 (by assumption) ?restZ21
            case hiZ21 => (simp only [List.getElem?_toArray, List.getElem?_cons_zero] <;> rfl)
            case hQZ21 => exact (fun _ _ _ h => h)
            case hwZ21 => rfl
            case hyZ21 => (intro w hSw; (try dsimp only at hSw); go_simp; try with_reducible rfl)
            (try simp only [Act.put, List.setIfInBounds_toArray, List.set_cons_zero, List.set_cons_succ])
            refine take_w (i := 1) (oi := ?oZ22) (v := ?vZ22) ?hiZ22 (by kernel_rfl) (by kernel_rfl) (by kernel_rfl) ?hQZ22 ?hwZ22 ?hyZ22 (by assumption) ?restZ22
            case hiZ22 => (simp only [List.getElem?_toArray, List.getElem?_cons_succ, List.getElem?_cons_zero] <;> rfl)
            case hQZ22 => exact (fun _ _ _ h => h)
            case hwZ22 => rfl
            case hyZ22 => (intro w hSw; (try dsimp only at hSw); go_simp; try with_reducible rfl)
            (try simp only [Act.put, List.setIfInBounds_toArray, List.set_cons_zero, List.set_cons_succ])
            refine take_w (i := 2) (oi := ?oZ23) (v := ?vZ23) ?hiZ23 (by kernel_rfl) (by kernel_rfl) (by kernel_rfl) ?hQZ23 ?hwZ23 ?hyZ23 (by assumption) ?restZ23
            case hiZ23 => (simp only [List.getElem?_toArray, List.getElem?_cons_succ, List.getElem?_cons_zero] <;> rfl)
            case hQZ23 => exact (fun _ _ _ h => h)
            case hwZ23 => rfl
            case hyZ23 => (intro w hSw; (try dsimp only at hSw); go_simp; try with_reducible rfl)
            (try simp only [Act.put, List.setIfInBounds_toArray, List.set_cons_zero, List.set_cons_succ])
            refine take_w (i := 3) (oi := ?oZ24) (v := ?vZ24) ?hiZ24 (by kernel_rfl) (by kernel_rfl) (by kernel_rfl) ?hQZ24 ?hwZ24 ?hyZ24 (by assumption) ?restZ24
            case hiZ24 => (simp only [List.getElem?_toArray, List.getElem?_cons_succ, List.getElem?_cons_zero] <;> rfl)
            case hQZ24 => exact (fun _ _ _ h => h)
            case hwZ24 => rfl
            case hyZ24 => (intro w hSw; (try dsimp only at hSw); go_simp; try with_reducible rfl)
            (try simp only [Act.put, List.setIfInBounds_toArray, List.set_cons_zero, List.set_cons_succ])
            refine take_w (i := 4) (oi := ?oZ25) (v := ?vZ25) ?hiZ25 (by kernel_rfl) (by kernel_rfl) (by kernel_rfl) ?hQZ25 ?hwZ25 ?hyZ25 (by assumption) ?restZ25
            case hiZ25 => (simp only [List.getElem?_toArray, List.getElem?_cons_succ, List.getElem?_cons_zero] <;> rfl)
            case hQZ25 => exact (fun _ _ _ h => h)
            case hwZ25 => rfl
            case hyZ25 => (intro w hSw; (try dsimp only at hSw); go_simp; try with_reducible rfl)
            (try simp only [Act.put, List.setIfInBounds_toArray, List.set_cons_zero, List.set_cons_succ])
            refine take_w (i := 5) (oi := ?oZ26) (v := ?vZ26) ?hiZ26 (by kernel_rfl) (by kernel_rfl) (by kernel_rfl) ?hQZ26 ?hwZ26 ?hyZ26 (by assumption) ?restZ26
            case hiZ26 => (simp only [List.getElem?_toArray, List.getElem?_cons_succ, List.getElem?_cons_zero] <;> rfl)
            case hQZ26 => exact (fun _ _ _ h => h)
            case hwZ26 => rfl
            case hyZ26 => (intro w hSw; (try dsimp only at hSw); go_simp; try with_reducible rfl)
            (try simp only [Act.put, List.setIfInBounds_toArray, List.set_cons_zero, List.set_cons_succ])
            refine wpAnyH_ready (rs := [6]) (by kernel_rfl) (by simp) ?_
            refine AllReadyH.cons (o := ?oZ27) ?hiZ27 (fun K hK => ?stZ27) AllReadyH.nil
            case hiZ27 => (simp only [List.getElem?_toArray, List.getElem?_cons_succ, List.getElem?_cons_zero] <;> rfl)
            go_simp
            go_at_call 12
            refine (get_ok a ht (kvs[k]).1 (ps[k]).ka (ps[k]).kn (ps[k]).kc _ HL.out.drew.ti ((HL.out.drew.pin.2 k hkp hkq).1.below HL.out.drew.b) HBD.out).mono ?_
            rw [HGT.out]
            rintro _ w8 ⟨a8, c8, rfl, hi8, hb8⟩
            have HL8 := Lib.hid (HL.out.drew.below hb8)
            have HI8 : Hid (InBytes w8 a8 (kvs[k]).2.length c8 (kvs[k]).2) := Lib.hid hi8
            clear hi8 hb8
            go_simp
            refine hK.out _ _ ?_ (fun hHeld => ?_)
            · (first | exact ⟨HL8.out.box.cells, (HL8.out.cells k hkp).1⟩ | exact ⟨HL.out.drew.box.cells, (HL.out.drew.cells k hkp).1⟩)
            clear hK K
            (try simp only [Act.put, List.setIfInBounds_toArray, List.set_cons_zero, List.set_cons_succ])
            refine take_w (i := 7) (oi := ?oZ28) (v := ?vZ28) ?hiZ28 (by kernel_rfl) (by kernel_rfl) (by kernel_rfl) ?hQZ28 ?hwZ28 ?hyZ28 (by assumption) ?restZ28
            case hiZ28 => (simp only [List.getElem?_toArray, List.getElem?_cons_succ, List.getElem?_cons_zero] <;> rfl)
            case hQZ28 => exact (fun _ _ _ h => h)
            case hwZ28 => rfl
            case hyZ28 => (intro w hSw; (try dsimp only at hSw); go_simp; try with_reducible rfl)
            (try simp only [Act.put, List.setIfInBounds_toArray, List.set_cons_zero, List.set_cons_succ])
            refine take_w (i := 8) (oi := ?oZ29) (v := ?vZ29) ?hiZ29 (by kernel_rfl) (by kernel_rfl) (by kernel_rfl) ?hQZ29 ?hwZ29 ?hyZ29 (by assumption) ?restZ29
            case hiZ29 => (simp only [List.getElem?_toArray, List.getElem?_cons_succ, List.getElem?_cons_zero] <;> rfl)
            case hQZ29 => exact (fun _ _ _ h => h)
            case hwZ29 => rfl
            case hyZ29 => (intro w hSw; (try dsimp only at hSw); go_simp; try with_reducible rfl)
            (try simp only [Act.put, List.setIfInBounds_toArray, List.set_cons_zero, List.set_cons_succ])
            refine take_w (i := 9) (oi := ?oZ30) (v := ?vZ30) ?hiZ30 (by kernel_rfl) (by kernel_rfl) (by kernel_rfl) ?hQZ30 ?hwZ30 ?hyZ30 (by assumption) ?restZ30
            case hiZ30 => (simp only [List.getElem?_toArray, List.getElem?_cons_succ, List.getElem?_cons_zero] <;> rfl)
            case hQZ30 => exact (fun _ _ _ h => h)
            case hwZ30 => rfl
            case hyZ30 => (intro w hSw; (try dsimp only at hSw); go_simp; try with_reducible rfl)
            (try simp only [Act.put, List.setIfInBounds_toArray, List.set_cons_zero, List.set_cons_succ])
            refine take_w (i := 10) (oi := ?oZ31) (v := ?vZ31) ?hiZ31 (by kernel_rfl) (by kernel_rfl) (by kernel_rfl) ?hQZ31 ?hwZ31 ?hyZ31 (by assumption) ?restZ31
            case hiZ31 => (simp only [List.getElem?_toArray, List.getElem?_cons_succ, List.getElem?_cons_zero] <;> rfl)
            case hQZ31 => exact (fun _ _ _ h => h)
            case hwZ31 => rfl
            case hyZ31 => (intro w hSw; (try dsimp only at hSw); go_simp; try with_reducible rfl)
            (try simp only [Act.put, List.setIfInBounds_toArray, List.set_cons_zero, List.set_cons_succ])
            refine take_w (i := 11) (oi := ?oZ32) (v := ?vZ32) ?hiZ32 (by kernel_rfl) (by kernel_rfl) (by kernel_rfl) ?hQZ32 ?hwZ32 ?hyZ32 (by assumption) ?restZ32
            case hiZ32 => (simp only [List.getElem?_toArray, List.getElem?_cons_succ, List.getElem?_cons_zero] <;> rfl)
            case hQZ32 => exact (fun _ _ _ h => h)
            case hwZ32 => rfl
            case hyZ32 => (intro w hSw; (try dsimp only at hSw); go_simp; try with_reducible rfl)
            (try simp only [Act.put, List.setIfInBounds_toArray, List.set_cons_zero, List.set_cons_succ])
            refine take_w (i := 12) (oi := ?oZ33) (v := ?vZ33) ?hiZ33 (by kernel_rfl) (by kernel_rfl) (by kernel_rfl) ?hQZ33 ?hwZ33 ?hyZ33 (by assumption) ?restZ33
            case hiZ33 => (simp only [List.getElem?_toArray, List.getElem?_cons_succ, List.getElem?_cons_zero] <;> rfl)
            case hQZ33 => exact (fun _ _ _ h => h)
            case hwZ33 => rfl
            case hyZ33 => (intro w hSw; (try dsimp only at hSw); go_simp; try with_reducible rfl)
            (try simp only [Act.put, List.setIfInBounds_toArray, List.set_cons_zero, List.set_cons_succ])
            refine take_w (i := 13) (oi := ?oZ34) (v := ?vZ34) ?hiZ34 (by kernel_rfl) (by kernel_rfl) (by kernel_rfl) ?hQZ34 ?hwZ34 ?hyZ34 (by assumption) ?restZ34
            case hiZ34 => (simp only [List.getElem?_toArray, List.getElem?_cons_succ, List.getElem?_cons_zero] <;> rfl)
            case hQZ34 => exact (fun _ _ _ h => h)
            case hwZ34 => rfl
            case hyZ34 => (intro w hSw; (try dsimp only at hSw); go_simp; try with_reducible rfl)
            (try simp only [Act.put, List.setIfInBounds_toArray, List.set_cons_zero, List.set_cons_succ])
            refine wpAnyH_done (by kernel_rfl) ?_ _
            clear hHeld
            go_upto_region 34 with fail
            have hse : ((strOfNums (kvs[k]).2).toList == (strOfNums (kvs[k]).2).toList) = true := by simp
            refine wp_region_held_drew (S := (fun W => W.cell? ⟨gp, k * 2 + 1, none⟩ = some (.slice (ps[k]).va (ps[k]).vn (ps[k]).vc) ∧ (convert 22 9 (.slice (ps[k]).va (ps[k]).vn (ps[k]).vc)).run Try.prog W = .ok (.string (strOfNums (kvs[k]).2)) W ∧ (convert 22 9 (.slice a8 (kvs[k]).2.length c8)).run Try.prog W = .ok (.string (strOfNums (kvs[k]).2)) W)) (by kernel_rfl) ⟨(HL8.out.drew.cells k hkp).2, conv_key ((HL8.out.drew.pin.2 k hkp hkq).2.below HL8.out.drew.b), conv_key (HI8.out.below (Below.refl _ _).drew)⟩ (fun hHeld => ?_)
            refine take_w (i := 0) (oi := ?oZ35) (v := ?vZ35) ?hiZ35 (by kernel_rfl) (by kernel_rfl) (by kernel_rfl) ?hQZ35 ?hwZ35 ?hyZ35 (by assumption) ?restZ35
            case hiZ35 => (simp only [List.getElem?_toArray, List.getElem?_cons_zero] <;> rfl)
            case hQZ35 => exact (fun _ _ _ h => h)
            case hwZ35 => rfl
            case hyZ35 => (intro w hSw; (try dsimp only at hSw); go_simp; try with_reducible rfl)
            (try simp only [Act.put, List.setIfInBounds_toArray, List.set_cons_zero, List.set_cons_succ])
            refine take_w (i := 1) (oi := ?oZ36) (v := ?vZ36) ?hiZ36 (by kernel_rfl) (by kernel_rfl) (by kernel_rfl) ?hQZ36 ?hwZ36 ?hyZ36 (by assumption) ?restZ36
            case hiZ36 => (simp only [List.getElem?_toArray, List.getElem?_cons_succ, List.getElem?_cons_zero] <;> rfl)
            case hQZ36 => exact (fun _ _ _ h => h)
            case hwZ36 => rfl
            case hyZ36 => (intro w hSw; (try dsimp only at hSw); go_simp; try with_reducible rfl)
            (try simp only [Act.put, List.setIfInBounds_toArray, List.set_cons_zero, List.set_cons_succ])
            refine take_w (i := 2) (oi := ?oZ37) (v := ?vZ37) ?hiZ37 (by kernel_rfl) (by kernel_rfl) (by kernel_rfl) ?hQZ37 ?hwZ37 ?hyZ37 (by assumption) ?restZ37
            case hiZ37 => (simp only [List.getElem?_toArray, List.getElem?_cons_succ, List.getElem?_cons_zero] <;> rfl)
            case hQZ37 => exact (fun _ _ _ h => h)
            case hwZ37 => rfl
            case hyZ37 => (intro w hSw; (try dsimp only at hSw); go_simp; try with_reducible rfl)
            (try simp only [Act.put, List.setIfInBounds_toArray, List.set_cons_zero, List.set_cons_succ])
            refine take_w (i := 3) (oi := ?oZ38) (v := ?vZ38) ?hiZ38 (by kernel_rfl) (by kernel_rfl) (by kernel_rfl) ?hQZ38 ?hwZ38 ?hyZ38 (by assumption) ?restZ38
            case hiZ38 => (simp only [List.getElem?_toArray, List.getElem?_cons_succ, List.getElem?_cons_zero] <;> rfl)
            case hQZ38 => exact (fun _ _ _ h => h)
            case hwZ38 => rfl
            case hyZ38 => (intro w hSw; (try dsimp only at hSw); go_simp; try with_reducible rfl)
            (try simp only [Act.put, List.setIfInBounds_toArray, List.set_cons_zero, List.set_cons_succ])
            refine take_w (i := 4) (oi := ?oZ39) (v := ?vZ39) ?hiZ39 (by kernel_rfl) (by kernel_rfl) (by kernel_rfl) ?hQZ39 ?hwZ39 ?hyZ39 (by assumption) ?restZ39
            case hiZ39 => (simp only [List.getElem?_toArray, List.getElem?_cons_succ, List.getElem?_cons_zero] <;> rfl)
            case hQZ39 => exact (fun _ _ _ h => h)
            case hwZ39 => rfl
            case hyZ39 => (intro w hSw; (try dsimp only at hSw); go_simp; try with_reducible rfl)
            (try simp only [Act.put, List.setIfInBounds_toArray, List.set_cons_zero, List.set_cons_succ])
            refine take_w (i := 5) (oi := ?oZ40) (v := ?vZ40) ?hiZ40 (by kernel_rfl) (by kernel_rfl) (by kernel_rfl) ?hQZ40 ?hwZ40 ?hyZ40 (by assumption) ?restZ40
            case hiZ40 => (simp only [List.getElem?_toArray, List.getElem?_cons_succ, List.getElem?_cons_zero] <;> rfl)
            case hQZ40 => exact (fun _ _ _ h => h)
            case hwZ40 => rfl
            case hyZ40 => (intro w hSw; (try dsimp only at hSw); go_simp; try with_reducible rfl)
            (try simp only [Act.put, List.setIfInBounds_toArray, List.set_cons_zero, List.set_cons_succ])
            refine take_w (i := 6) (oi := ?oZ41) (v := ?vZ41) ?hiZ41 (by kernel_rfl) (by kernel_rfl) (by kernel_rfl) ?hQZ41 ?hwZ41 ?hyZ41 (by assumption) ?restZ41
            case hiZ41 => (simp only [List.getElem?_toArray, List.getElem?_cons_succ, List.getElem?_cons_zero] <;> rfl)
            case hQZ41 => exact (fun _ _ _ h => h)
            case hwZ41 => rfl
            case hyZ41 => (intro w hSw; (try dsimp only at hSw); go_simp; try with_reducible rfl)
            (try simp only [Act.put, List.setIfInBounds_toArray, List.set_cons_zero, List.set_cons_succ])
            refine take_w (i := 7) (oi := ?oZ42) (v := ?vZ42) ?hiZ42 (by kernel_rfl) (by kernel_rfl) (by kernel_rfl) ?hQZ42 ?hwZ42 ?hyZ42 (by assumption) ?restZ42
            case hiZ42 => (simp only [List.getElem?_toArray, List.getElem?_cons_succ, List.getElem?_cons_zero] <;> rfl)
            case hQZ42 => exact (fun _ _ _ h => h)
            case hwZ42 => rfl
            case hyZ42 => (intro w hSw; (try dsimp only at hSw); go_simp; try with_reducible rfl)
            (try simp only [Act.put, List.setIfInBounds_toArray, List.set_cons_zero, List.set_cons_succ])
            refine take_w (i := 8) (oi := ?oZ43) (v := ?vZ43) ?hiZ43 (by kernel_rfl) (by kernel_rfl) (by kernel_rfl) ?hQZ43 ?hwZ43 ?hyZ43 (by assumption) ?restZ43
            case hiZ43 => (simp only [List.getElem?_toArray, List.getElem?_cons_succ, List.getElem?_cons_zero] <;> rfl)
            case hQZ43 => exact (fun _ _ _ h => h)
            case hwZ43 => rfl
            case hyZ43 => (intro w hSw; (try dsimp only at hSw); go_simp; try with_reducible rfl)
            (try simp only [Act.put, List.setIfInBounds_toArray, List.set_cons_zero, List.set_cons_succ])
            refine take_w (i := 9) (oi := ?oZ44) (v := ?vZ44) ?hiZ44 (by kernel_rfl) (by kernel_rfl) (by kernel_rfl) ?hQZ44 ?hwZ44 ?hyZ44 (by assumption) ?restZ44
            case hiZ44 => (simp only [List.getElem?_toArray, List.getElem?_cons_succ, List.getElem?_cons_zero] <;> rfl)
            case hQZ44 => exact (fun _ _ _ h => h)
            case hwZ44 => rfl
            case hyZ44 => (intro w hSw; (try dsimp only at hSw); go_simp; try with_reducible rfl)
            (try simp only [Act.put, List.setIfInBounds_toArray, List.set_cons_zero, List.set_cons_succ])
            refine take_w (i := 10) (oi := ?oZ45) (v := ?vZ45) ?hiZ45 (by kernel_rfl) (by kernel_rfl) (by kernel_rfl) ?hQZ45 ?hwZ45 ?hyZ45 (by assumption) ?restZ45
            case hiZ45 => (simp only [List.getElem?_toArray, List.getElem?_cons_succ, List.getElem?_cons_zero] <;> rfl)
            case hQZ45 => exact (fun _ _ _ h => h)
            case hwZ45 => rfl
            case hyZ45 => (intro w hSw; (try dsimp only at hSw); go_simp; try with_reducible rfl)
            (try simp only [Act.put, List.setIfInBounds_toArray, List.set_cons_zero, List.set_cons_succ])
            refine take_w (i := 11) (oi := ?oZ46) (v := ?vZ46) ?hiZ46 (by kernel_rfl) (by kernel_rfl) (by kernel_rfl) ?hQZ46 ?hwZ46 ?hyZ46 (by assumption) ?restZ46
            case hiZ46 => (simp only [List.getElem?_toArray, List.getElem?_cons_succ, List.getElem?_cons_zero] <;> rfl)
            case hQZ46 => exact (fun _ _ _ h => h)
            case hwZ46 => rfl
            case hyZ46 => (intro w hSw; (try dsimp only at hSw); go_simp; try with_reducible rfl)
            (try simp only [Act.put, List.setIfInBounds_toArray, List.set_cons_zero, List.set_cons_succ])
            refine take_w (i := 12) (oi := ?oZ47) (v := ?vZ47) ?hiZ47 (by kernel_rfl) (by kernel_rfl) (by kernel_rfl) ?hQZ47 ?hwZ47 ?hyZ47 (by assumption) ?restZ47
            case hiZ47 => (simp only [List.getElem?_toArray, List.getElem?_cons_succ, List.getElem?_cons_zero] <;> rfl)
            case hQZ47 => exact (fun _ _ _ h => h)
            case hwZ47 => rfl
            case hyZ47 => (intro w hSw; (try dsimp only at hSw); go_simp; try with_reducible rfl)
            (try simp only [Act.put, List.setIfInBounds_toArray, List.set_cons_zero, List.set_cons_succ])
            refine take_w (i := 13) (oi := ?oZ48) (v := ?vZ48) ?hiZ48 (by kernel_rfl) (by kernel_rfl) (by kernel_rfl) ?hQZ48 ?hwZ48 ?hyZ48 (by assumption) ?restZ48
            case hiZ48 => (simp only [List.getElem?_toArray, List.getElem?_cons_succ, List.getElem?_cons_zero] <;> rfl)
            case hQZ48 => exact (fun _ _ _ h => h)
            case hwZ48 => rfl
            case hyZ48 => (intro w hSw; (try dsimp only at hSw); go_simp; try with_reducible rfl)
            (try simp only [Act.put, List.setIfInBounds_toArray, List.set_cons_zero, List.set_cons_succ])
            refine take_w (i := 14) (oi := ?oZ49) (v := ?vZ49) ?hiZ49 (by kernel_rfl) (by kernel_rfl) (by kernel_rfl) ?hQZ49 ?hwZ49 ?hyZ49 (by assumption) ?restZ49
            case hiZ49 => (simp only [List.getElem?_toArray, List.getElem?_cons_succ, List.getElem?_cons_zero] <;> rfl)
            case hQZ49 => exact (fun _ _ _ h => h)
            case hwZ49 => rfl
            case hyZ49 => (intro w hSw; (try dsimp only at hSw); go_simp; try with_reducible rfl)
            (try simp only [Act.put, List.setIfInBounds_toArray, List.set_cons_zero, List.set_cons_succ])
            refine take_w (i := 15) (oi := ?oZ50) (v := ?vZ50) ?hiZ50 (by kernel_rfl) (by kernel_rfl) (by kernel_rfl) ?hQZ50 ?hwZ50 ?hyZ50 (by assumption) ?restZ50
            case hiZ50 => (simp only [List.getElem?_toArray, List.getElem?_cons_succ, List.getElem?_cons_zero] <;> rfl)
            case hQZ50 => exact (fun _ _ _ h => h)
            case hwZ50 => rfl
            case hyZ50 => (intro w hSw; (try dsimp only at hSw); go_simp; try with_reducible rfl)
            (try simp only [Act.put, List.setIfInBounds_toArray, List.set_cons_zero, List.set_cons_succ])
            refine take_w (i := 16) (oi := ?oZ51) (v := ?vZ51) ?hiZ51 (by kernel_rfl) (by kernel_rfl) (by kernel_rfl) ?hQZ51 ?hwZ51 ?hyZ51 (by assumption) ?restZ51
            case hiZ51 => (simp only [List.getElem?_toArray, List.getElem?_cons_succ, List.getElem?_cons_zero] <;> rfl)
            case hQZ51 => exact (fun _ _ _ h => h)
            case hwZ51 => rfl
            case hyZ51 => (intro w hSw; (try dsimp only at hSw); go_simp; try with_reducible rfl)
            (try simp only [Act.put, List.setIfInBounds_toArray, List.set_cons_zero, List.set_cons_succ])
            refine wpAnyH_done (by kernel_rfl) ?_ _
            clear hHeld
            go_wp2_with fail
            exact ⟨⟨k + 1, by omega, by go_num, HL8.out.drew⟩, by simp [intOf]; omega⟩
          · obtain rfl : k = m := by omega
            have q1 : ¬ (k : Int) < (k : Int) := by omega
            go_wp2_with fail
            go_ret
            exact ⟨rfl, hl.b⟩
    · have q1 : ¬ (i : Int) < (n : Int) := by omega
      have HW2 := Lib.hid hw
      clear hw
      have HL2 := HW2
      have hgi : isT a.tr = true := HW2.out.good.is (by have := HW2.out.cnt; omega)
      have hln : (listT a.tr).length = m := by rw [AT.list_pairs, ← HW2.out.len.1]; exact hpl
      have hfo : formedT a.tr = true := (AT.tr_formed a).2 HW2.out.good.lim
      have hct : countT a.tr ≤ 500 := by rw [AT.count]; have := HW2.out.cnt; omega
      have HLN := Lib.hid (And.intro hln (And.intro hfo (And.intro hct hgi)))
      clear hgi hln hfo hct
      have hmm : ((m : Int) != (m : Int)) = false := by simp
      obtain ⟨x0, x1, x2, x3, x4⟩ := HW2.out.box.cells
      go_upto_region 30 with (first
        | (go_at_call 10
           refine (is_any a.tr ht _ HW2.out.ti).mono ?_
           rw [HLN.out.2.2.2]
           rintro _ w6 ⟨rfl, hb6⟩
           have HL6 := Lib.hid (HW2.out.below hb6)
           clear x0 x1 x2 x3 x4
           obtain ⟨x0, x1, x2, x3, x4⟩ := HL6.out.box.cells
           clear hb6)
        | (go_at_call 21
           refine (refList_any a.tr ht _ _ HL6.out.ti (Below.refl _ _) HLN.out.2.1 HLN.out.2.2.1).mono ?_
           rintro _ w7 ⟨v7, hs7, rfl, ho7, hh7, hb7⟩
           obtain ⟨la, lc, hv7⟩ := ho7.sl
           rw [hh7.1, HLN.out.1] at hv7
           subst hv7
           have HL7 := Lib.hid (HL6.out.below hb7)
           clear ho7 hh7 hb7 x0 x1 x2 x3 x4))
      clear HL2 HL6 HW2
      go_wp2_with fail
      go_loopw [16] (fun s16 wx => ∃ k : Nat, k ≤ m ∧ s16 = .int .i64 k ∧ HW w wx g4 ht a (.slice pa m pc) ps kvs i) (fun s16 _ => m - (intOf s16).toNat)
      case atStart => exact ⟨0, by omega, rfl, HL7.out⟩
      case round =>
        clear HL7
        obtain ⟨k, hk, rfl, hl⟩ := hrel
        by_cases hlt : k < m
        · have q1 : (k : Int) < (m : Int) := by omega
          have hkp : k < ps.length := by omega
          have hkq : k < kvs.length := by rw [← hl.pin.1]; exact hkp
          obtain ⟨gp, hgp⟩ := hl.at k hkp
          subst hgp
          have hmem : kvs[k] ∈ a.pairs := hl.perm.mem_iff.1 (List.getElem_mem hkq)
          have HGT := Lib.hid (get_of_mem hl.good hmem)
          have HBD : Hid (badA a.tr (ps[k]).kn 0 = 0) := Lib.hid (good_bad hl.good (by have := hl.cnt; omega) (by
            have h1 := (hl.good.lim _ hmem).1
            have h2 := (hl.pin.2 k hkp hkq).1.len
            omega) (by omega))
          have HL := Lib.hid hl
          clear hl hmem
          go_upto_region 33 with fail
          refine wp_region_held_drew (S := (fun W => (W.cell? ⟨g4, 0, none⟩ = some (.int .i64 ht.k) ∧ W.cell? ⟨g4, 1, none⟩ = some (.slice ht.ka ht.kn ht.kc) ∧ W.cell? ⟨g4, 2, none⟩ = some (.slice ht.va ht.vn ht.vc) ∧ W.cell? ⟨g4, 3, none⟩ = some (.slice ht.da ht.dn ht.dc) ∧ W.cell? ⟨g4, 4, none⟩ = some (.slice ht.ta ht.tn ht.tc)) ∧ W.cell? ⟨gp, k * 2, none⟩ = some (.slice (ps[k]).ka (ps[k]).kn (ps[k]).kc))) (by kernel_rfl) ⟨HL.out.drew.box.cells, (HL.out.drew.cells k hkp).1⟩ (fun hHeld => ?_)
          refine take_w (i := 0) (oi := ?oZ52) (v := ?vZ52) ?hiZ52 (by kernel_rfl) (by kernel_rfl) (by kernel_rfl) ?hQZ52 ?hwZ52 ?hyZ52 (by assumption) ?restZ52
          case hiZ52 => (simp only [List.getElem?_toArray, List.getElem?_cons_zero] <;> rfl)
          case hQZ52 => exact (fun _ _ _ h => h)
          case hwZ52 => rfl
          case hyZ52 => (intro w hSw; (try dsimp only at hSw); go_simp; try with_reducible rfl)
          (try simp only [Act.put, List.setIfInBounds_toArray, List.set_cons_zero, List.set_cons_succ])
          refine take_w (i := 1) (oi := ?oZ53) (v := ?vZ53) ?hiZ53 (by kernel_rfl) (by kernel_rfl) (by kernel_rfl) ?hQZ53 ?hwZ53 ?hyZ53 (by assumption) ?restZ53
          case hiZ53 => (simp only [List.getElem?_toArray, List.getElem?_cons_succ, List.getElem?_cons_zero] <;> rfl)
          case hQZ53 => exact (fun _ _ _ h => h)
          case hwZ53 => rfl
          case hyZ53 => (intro w hSw; (try dsimp only at hSw); go_simp; try with_reducible rfl)
          (try simp only [Act.put, List.setIfInBounds_toArray, List.set_cons_zero, List.set_cons_succ])
          refine take_w (i := 2) (oi := ?oZ54) (v := ?vZ54) ?hiZ54 (by kernel_rfl) (by kernel_rfl) (by kernel_rfl) ?hQZ54 ?hwZ54 ?hyZ54 (by assumption) ?restZ54
          case hiZ54 => (simp only [List.getElem?_toArray, List.getElem?_cons_succ, List.getElem?_cons_zero] <;> rfl)
          case hQZ54 => exact (fun _ _ _ h => h)
          case hwZ54 => rfl
          case hyZ54 => (intro w hSw; (try dsimp only at hSw); go_simp; try with_reducible rfl)
          (try simp only [Act.put, List.setIfInBounds_toArray, List.set_cons_zero, List.set_cons_succ])
          refine take_w (i := 3) (oi := ?oZ55) (v := ?vZ55) ?hiZ55 (by kernel_rfl) (by kernel_rfl) (by kernel_rfl) ?hQZ55 ?hwZ55 ?hyZ55 (by assumption) ?restZ55
          case hiZ55 => (simp only [List.getElem?_toArray, List.getElem?_cons_succ, List.getElem?_cons_zero] <;> rfl)
          case hQZ55 => exact (fun _ _ _ h => h)
          case hwZ55 => rfl
          case hyZ55 => (intro w hSw; (try dsimp only at hSw); go_simp; try with_reducible rfl)
          (try simp only [Act.put, List.setIfInBounds_toArray, List.set_cons_zero, List.set_cons_succ])
          refine take_w (i := 4) (oi := ?oZ56) (v := ?vZ56) ?hiZ56 (by kernel_rfl) (by kernel_rfl) (by kernel_rfl) ?hQZ56 ?hwZ56 ?hyZ56 (by assumption) ?restZ56
          case hiZ56 => (simp only [List.getElem?_toArray, List.getElem?_cons_succ, List.getElem?_cons_zero] <;> rfl)
          case hQZ56 => exact (fun _ _ _ h => h)
          case hwZ56 => rfl
          case hyZ56 => (intro w hSw; (try dsimp only at hSw); go_simp; try with_reducible rfl)
          (try simp only [Act.put, List.setIfInBounds_toArray, List.set_cons_zero, List.set_cons_succ])
          refine take_w (i := 5) (oi := ?oZ57) (v := ?vZ57) ?hiZ57 (by kernel_rfl) (by kernel_rfl) (by kernel_rfl) ?hQZ57 ?hwZ57 ?hyZ57 (by assumption) ?restZ57
          case hiZ57 => (simp only [List.getElem?_toArray, List.getElem?_cons_succ, List.getElem?_cons_zero] <;> rfl)
          case hQZ57 => exact (fun _ _ _ h => h)
          case hwZ57 => rfl
          case hyZ57 => (intro w hSw; (try dsimp only at hSw); go_simp; try with_reducible rfl)
          (try simp only [Act.put, List.setIfInBounds_toArray, List.set_cons_zero, List.set_cons_succ])
          refine wpAnyH_ready (rs := [6]) (by kernel_rfl) (by simp) ?_
          refine AllReadyH.cons (o := ?oZ58) ?hiZ58 (fun K hK => ?stZ58) AllReadyH.nil
          case hiZ58 => (simp only [List.getElem?_toArray, List.getElem?_cons_succ, List.getElem?_cons_zero] <;> rfl)
          go_simp
          go_at_call 12
          refine (get_ok a ht (kvs[k]).1 (ps[k]).ka (ps[k]).kn (ps[k]).kc _ HL.out.drew.ti ((HL.out.drew.pin.2 k hkp hkq).1.below HL.out.drew.b) HBD.out).mono ?_
          rw [HGT.out]
          rintro _ w8 ⟨a8, c8, rfl, hi8, hb8⟩
          have HL8 := Lib.hid (HL.out.drew.below hb8)
          have HI8 : Hid (InBytes w8 a8 (kvs[k]).2.length c8 (kvs[k]).2) := Lib.hid hi8
          clear hi8 hb8
          go_simp
          refine hK.out _ _ ?_ (fun hHeld => ?_)
          · (first | exact ⟨HL8.out.box.cells, (HL8.out.cells k hkp).1⟩ | exact ⟨HL.out.drew.box.cells, (HL.out.drew.cells k hkp).1⟩)
          clear hK K
          (try simp only [Act.put, List.setIfInBounds_toArray, List.set_cons_zero, List.set_cons_succ])
          refine take_w (i := 7) (oi := ?oZ59) (v := ?vZ59) ?hiZ59 (by kernel_rfl) (by kernel_rfl) (by kernel_rfl) ?hQZ59 ?hwZ59 ?hyZ59 (by assumption) ?restZ59
          case hiZ59 => (simp only [List.getElem?_toArray, List.getElem?_cons_succ, List.getElem?_cons_zero] <;> rfl)
          case hQZ59 => exact (fun _ _ _ h => h)
          case hwZ59 => rfl
          case hyZ59 => (intro w hSw; (try dsimp only at hSw); go_simp; try with_reducible rfl)
          (try simp only [Act.put, List.setIfInBounds_toArray, List.set_cons_zero, List.set_cons_succ])
          refine take_w (i := 8) (oi := ?oZ60) (v := ?vZ60) ?hiZ60 (by kernel_rfl) (by kernel_rfl) (by kernel_rfl) ?hQZ60 ?hwZ60 ?hyZ60 (by assumption) ?restZ60
          case hiZ60 => (simp only [List.getElem?_toArray, List.getElem?_cons_succ, List.getElem?_cons_zero] <;> rfl)
          case hQZ60 => exact (fun _ _ _ h => h)
          case hwZ60 => rfl
          case hyZ60 => (intro w hSw; (try dsimp only at hSw); go_simp; try with_reducible rfl)
          (try simp only [Act.put, List.setIfInBounds_toArray, List.set_cons_zero, List.set_cons_succ])
          refine take_w (i := 9) (oi := ?oZ61) (v := ?vZ61) ?hiZ61 (by kernel_rfl) (by kernel_rfl) (by kernel_rfl) ?hQZ61 ?hwZ61 ?hyZ61 (by assumption) ?restZ61
          case hiZ61 => (simp only [List.getElem?_toArray, List.getElem?_cons_succ, List.getElem?_cons_zero] <;> rfl)
          case hQZ61 => exact (fun _ _ _ h => h)
          case hwZ61 => rfl
          case hyZ61 => (intro w hSw; (try dsimp only at hSw); go_simp; try with_reducible rfl)
          (try simp only [Act.put, List.setIfInBounds_toArray, List.set_cons_zero, List.set_cons_succ])
          refine take_w (i := 10) (oi := ?oZ62) (v := ?vZ62) ?hiZ62 (by kernel_rfl) (by kernel_rfl) (by kernel_rfl) ?hQZ62 ?hwZ62 ?hyZ62 (by assumption) ?restZ62
          case hiZ62 => (simp only [List.getElem?_toArray, List.getElem?_cons_succ, List.getElem?_cons_zero] <;> rfl)
          case hQZ62 => exact (fun _ _ _ h => h)
          case hwZ62 => rfl
          case hyZ62 => (intro w hSw; (try dsimp only at hSw); go_simp; try with_reducible rfl)
          (try simp only [Act.put, List.setIfInBounds_toArray, List.set_cons_zero, List.set_cons_succ])
          refine take_w (i := 11) (oi := ?oZ63) (v := ?vZ63) ?hiZ63 (by kernel_rfl) (by kernel_rfl) (by kernel_rfl) ?hQZ63 ?hwZ63 ?hyZ63 (by assumption) ?restZ63
          case hiZ63 => (simp only [List.getElem?_toArray, List.getElem?_cons_succ, List.getElem?_cons_zero] <;> rfl)
          case hQZ63 => exact (fun _ _ _ h => h)
          case hwZ63 => rfl
          case hyZ63 => (intro w hSw; (try dsimp only at hSw); go_simp; try with_reducible rfl)
          (try simp only [Act.put, List.setIfInBounds_toArray, List.set_cons_zero, List.set_cons_succ])
          refine take_w (i := 12) (oi := ?oZ64) (v := ?vZ64) ?hiZ64 (by kernel_rfl) (by kernel_rfl) (by kernel_rfl) ?hQZ64 ?hwZ64 ?hyZ64 (by assumption) ?restZ64
          case hiZ64 => (simp only [List.getElem?_toArray, List.getElem?_cons_succ, List.getElem?_cons_zero] <;> rfl)
          case hQZ64 => exact (fun _ _ _ h => h)
          case hwZ64 => rfl
          case hyZ64 => (intro w hSw; (try dsimp only at hSw); go_simp; try with_reducible rfl)
          (try simp only [Act.put, List.setIfInBounds_toArray, List.set_cons_zero, List.set_cons_succ])
          refine take_w (i := 13) (oi := ?oZ65) (v := ?vZ65) ?hiZ65 (by kernel_rfl) (by kernel_rfl) (by kernel_rfl) ?hQZ65 ?hwZ65 ?hyZ65 (by assumption) ?restZ65
          case hiZ65 => (simp only [List.getElem?_toArray, List.getElem?_cons_succ, List.getElem?_cons_zero] <;> rfl)
          case hQZ65 => exact (fun _ _ _ h => h)
          case hwZ65 => rfl
          case hyZ65 => (intro w hSw; (try dsimp only at hSw); go_simp; try with_reducible rfl)
          (try simp only [Act.put, List.setIfInBounds_toArray, List.set_cons_zero, List.set_cons_succ])
          refine wpAnyH_done (by kernel_rfl) ?_ _
          clear hHeld
          go_upto_region 34 with fail
          have hse : ((strOfNums (kvs[k]).2).toList == (strOfNums (kvs[k]).2).toList) = true := by simp
          refine wp_region_held_drew (S := (fun W => W.cell? ⟨gp, k * 2 + 1, none⟩ = some (.slice (ps[k]).va (ps[k]).vn (ps[k]).vc) ∧ (convert 22 9 (.slice (ps[k]).va (ps[k]).vn (ps[k]).vc)).run Try.prog W = .ok (.string (strOfNums (kvs[k]).2)) W ∧ (convert 22 9 (.slice a8 (kvs[k]).2.length c8)).run Try.prog W = .ok (.string (strOfNums (kvs[k]).2)) W)) (by kernel_rfl) ⟨(HL8.out.drew.cells k hkp).2, conv_key ((HL8.out.drew.pin.2 k hkp hkq).2.below HL8.out.drew.b), conv_key (HI8.out.below (Below.refl _ _).drew)⟩ (fun hHeld => ?_)
          refine take_w (i := 0) (oi := ?oZ66) (v := ?vZ66) ?hiZ66 (by kernel_rfl) (by kernel_rfl) (by kernel_rfl) ?hQZ66 ?hwZ66 ?hyZ66 (by assumption) ?restZ66
          case hiZ66 => (simp only [List.getElem?_toArray, List.getElem?_cons_zero] <;> rfl)
          case hQZ66 => exact (fun _ _ _ h => h)
          case hwZ66 => rfl
          case hyZ66 => (intro w hSw; (try dsimp only at hSw); go_simp; try with_reducible rfl)
          (try simp only [Act.put, List.setIfInBounds_toArray, List.set_cons_zero, List.set_cons_succ])
          refine take_w (i := 1) (oi := ?oZ67) (v := ?vZ67) ?hiZ67 (by kernel_rfl) (by kernel_rfl) (by kernel_rfl) ?hQZ67 ?hwZ67 ?hyZ67 (by assumption) ?restZ67
          case hiZ67 => (simp only [List.getElem?_toArray, List.getElem?_cons_succ, List.getElem?_cons_zero] <;> rfl)
          case hQZ67 => exact (fun _ _ _ h => h)
          case hwZ67 => rfl
          case hyZ67 => (intro w hSw; (try dsimp only at hSw); go_simp; try with_reducible rfl)
          (try simp only [Act.put, List.setIfInBounds_toArray, List.set_cons_zero, List.set_cons_succ])
          refine take_w (i := 2) (oi := ?oZ68) (v := ?vZ68) ?hiZ68 (by kernel_rfl) (by kernel_rfl) (by kernel_rfl) ?hQZ68 ?hwZ68 ?hyZ68 (by assumption) ?restZ68
          case hiZ68 => (simp only [List.getElem?_toArray, List.getElem?_cons_succ, List.getElem?_cons_zero] <;> rfl)
          case hQZ68 => exact (fun _ _ _ h => h)
          case hwZ68 => rfl
          case hyZ68 => (intro w hSw; (try dsimp only at hSw); go_simp; try with_reducible rfl)
          (try simp only [Act.put, List.setIfInBounds_toArray, List.set_cons_zero, List.set_cons_succ])
          refine take_w (i := 3) (oi := ?oZ69) (v := ?vZ69) ?hiZ69 (by kernel_rfl) (by kernel_rfl) (by kernel_rfl) ?hQZ69 ?hwZ69 ?hyZ69 (by assumption) ?restZ69
          case hiZ69 => (simp only [List.getElem?_toArray, List.getElem?_cons_succ, List.getElem?_cons_zero] <;> rfl)
          case hQZ69 => exact (fun _ _ _ h => h)
          case hwZ69 => rfl
          case hyZ69 => (intro w hSw; (try dsimp only at hSw); go_simp; try with_reducible rfl)
          (try simp only [Act.put, List.setIfInBounds_toArray, List.set_cons_zero, List.set_cons_succ])
          refine take_w (i := 4) (oi := ?oZ70) (v := ?vZ70) ?hiZ70 (by kernel_rfl) (by kernel_rfl) (by kernel_rfl) ?hQZ70 ?hwZ70 ?hyZ70 (by assumption) ?restZ70
          case hiZ70 => (simp only [List.getElem?_toArray, List.getElem?_cons_succ, List.getElem?_cons_zero] <;> rfl)
          case hQZ70 => exact (fun _ _ _ h => h)
          case hwZ70 => rfl
          case hyZ70 => (intro w hSw; (try dsimp only at hSw); go_simp; try with_reducible rfl)
          (try simp only [Act.put, List.setIfInBounds_toArray, List.set_cons_zero, List.set_cons_succ])
          refine take_w (i := 5) (oi := ?oZ71) (v := ?vZ71) ?hiZ71 (by kernel_rfl) (by kernel_rfl) (by kernel_rfl) ?hQZ71 ?hwZ71 ?hyZ71 (by assumption) ?restZ71
          case hiZ71 => (simp only [List.getElem?_toArray, List.getElem?_cons_succ, List.getElem?_cons_zero] <;> rfl)
          case hQZ71 => exact (fun _ _ _ h => h)
          case hwZ71 => rfl
          case hyZ71 => (intro w hSw; (try dsimp only at hSw); go_simp; try with_reducible rfl)
          (try simp only [Act.put, List.setIfInBounds_toArray, List.set_cons_zero, List.set_cons_succ])
          refine take_w (i := 6) (oi := ?oZ72) (v := ?vZ72) ?hiZ72 (by kernel_rfl) (by kernel_rfl) (by kernel_rfl) ?hQZ72 ?hwZ72 ?hyZ72 (by assumption) ?restZ72
          case hiZ72 => (simp only [List.getElem?_toArray, List.getElem?_cons_succ, List.getElem?_cons_zero] <;> rfl)
          case hQZ72 => exact (fun _ _ _ h => h)
          case hwZ72 => rfl
          case hyZ72 => (intro w hSw; (try dsimp only at hSw); go_simp; try with_reducible rfl)
          (try simp only [Act.put, List.setIfInBounds_toArray, List.set_cons_zero, List.set_cons_succ])
          refine take_w (i := 7) (oi := ?oZ73) (v := ?vZ73) ?hiZ73 (by kernel_rfl) (by kernel_rfl) (by kernel_rfl) ?hQZ73 ?hwZ73 ?hyZ73 (by assumption) ?restZ73
          case hiZ73 => (simp only [List.getElem?_toArray, List.getElem?_cons_succ, List.getElem?_cons_zero] <;> rfl)
          case hQZ73 => exact (fun _ _ _ h => h)
          case hwZ73 => rfl
          case hyZ73 => (intro w hSw; (try dsimp only at hSw); go_simp; try with_reducible rfl)
          (try simp only [Act.put, List.setIfInBounds_toArray, List.set_cons_zero, List.set_cons_succ])
          refine take_w (i := 8) (oi := ?oZ74) (v := ?vZ74) ?hiZ74 (by kernel_rfl) (by kernel_rfl) (by kernel_rfl) ?hQZ74 ?hwZ74 ?hyZ74 (by assumption) ?restZ74
          case hiZ74 => (simp only [List.getElem?_toArray, List.getElem?_cons_succ, List.getElem?_cons_zero] <;> rfl)
          case hQZ74 => exact (fun _ _ _ h => h)
          case hwZ74 => rfl
          case hyZ74 => (intro w hSw; (try dsimp only at hSw); go_simp; try with_reducible rfl)
          (try simp only [Act.put, List.setIfInBounds_toArray, List.set_cons_zero, List.set_cons_succ])
          refine take_w (i := 9) (oi := ?oZ75) (v := ?vZ75) ?hiZ75 (by kernel_rfl) (by kernel_rfl) (by kernel_rfl) ?hQZ75 ?hwZ75 ?hyZ75 (by assumption) ?restZ75
          case hiZ75 => (simp only [List.getElem?_toArray, List.getElem?_cons_succ, List.getElem?_cons_zero] <;> rfl)
          case hQZ75 => exact (fun _ _ _ h => h)
          case hwZ75 => rfl
          case hyZ75 => (intro w hSw; (try dsimp only at hSw); go_simp; try with_reducible rfl)
          (try simp only [Act.put, List.setIfInBounds_toArray, List.set_cons_zero, List.set_cons_succ])
          refine take_w (i := 10) (oi := ?oZ76) (v := ?vZ76) ?hiZ76 (by kernel_rfl) (by kernel_rfl) (by kernel_rfl) ?hQZ76 ?hwZ76 ?hyZ76 (by assumption) ?restZ76
          case hiZ76 => (simp only [List.getElem?_toArray, List.getElem?_cons_succ, List.getElem?_cons_zero] <;> rfl)
          case hQZ76 => exact (fun _ _ _ h => h)
          case hwZ76 => rfl
          case hyZ76 => (intro w hSw; (try dsimp only at hSw); go_simp; try with_reducible rfl)
          (try simp only [Act.put, List.setIfInBounds_toArray, List.set_cons_zero, List.set_cons_succ])
          refine take_w (i := 11) (oi := ?oZ77) (v := ?vZ77) ?hiZ77 (by kernel_rfl) (by kernel_rfl) (by kernel_rfl) ?hQZ77 ?hwZ77 ?hyZ77 (by assumption) ?restZ77
          case hiZ77 => (simp only [List.getElem?_toArray, List.getElem?_cons_succ, List.getElem?_cons_zero] <;> rfl)
          case hQZ77 => exact (fun _ _ _ h => h)
          case hwZ77 => rfl
          case hyZ77 => (intro w hSw; (try dsimp only at hSw); go_simp; try with_reducible rfl)
          (try simp only [Act.put, List.setIfInBounds_toArray, List.set_cons_zero, List.set_cons_succ])
          refine take_w (i := 12) (oi := ?oZ78) (v := ?vZ78) ?hiZ78 (by kernel_rfl) (by kernel_rfl) (by kernel_rfl) ?hQZ78 ?hwZ78 ?hyZ78 (by assumption) ?restZ78
          case hiZ78 => (simp only [List.getElem?_toArray, List.getElem?_cons_succ, List.getElem?_cons_zero] <;> rfl)
          case hQZ78 => exact (fun _ _ _ h => h)
          case hwZ78 => rfl
          case hyZ78 => (intro w hSw; (try dsimp only at hSw); go_simp; try with_reducible rfl)
          (try simp only [Act.put, List.setIfInBounds_toArray, List.set_cons_zero, List.set_cons_succ])
          refine take_w (i := 13) (oi := ?oZ79) (v := ?vZ79) ?hiZ79 (by kernel_rfl) (by kernel_rfl) (by kernel_rfl) ?hQZ79 ?hwZ79 ?hyZ79 (by assumption) ?restZ79
          case hiZ79 => (simp only [List.getElem?_toArray, List.getElem?_cons_succ, List.getElem?_cons_zero] <;> rfl)
          case hQZ79 => exact (fun _ _ _ h => h)
          case hwZ79 => rfl
          case hyZ79 => (intro w hSw; (try dsimp only at hSw); go_simp; try with_reducible rfl)
          (try simp only [Act.put, List.setIfInBounds_toArray, List.set_cons_zero, List.set_cons_succ])
          refine take_w (i := 14) (oi := ?oZ80) (v := ?vZ80) ?hiZ80 (by kernel_rfl) (by kernel_rfl) (by kernel_rfl) ?hQZ80 ?hwZ80 ?hyZ80 (by assumption) ?restZ80
          case hiZ80 => (simp only [List.getElem?_toArray, List.getElem?_cons_succ, List.getElem?_cons_zero] <;> rfl)
          case hQZ80 => exact (fun _ _ _ h => h)
          case hwZ80 => rfl
          case hyZ80 => (intro w hSw; (try dsimp only at hSw); go_simp; try with_reducible rfl)
          (try simp only [Act.put, List.setIfInBounds_toArray, List.set_cons_zero, List.set_cons_succ])
          refine take_w (i := 15) (oi := ?oZ81) (v := ?vZ81) ?hiZ81 (by kernel_rfl) (by kernel_rfl) (by kernel_rfl) ?hQZ81 ?hwZ81 ?hyZ81 (by assumption) ?restZ81
          case hiZ81 => (simp only [List.getElem?_toArray, List.getElem?_cons_succ, List.getElem?_cons_zero] <;> rfl)
          case hQZ81 => exact (fun _ _ _ h => h)
          case hwZ81 => rfl
          case hyZ81 => (intro w hSw; (try dsimp only at hSw); go_simp; try with_reducible rfl)
          (try simp only [Act.put, List.setIfInBounds_toArray, List.set_cons_zero, List.set_cons_succ])
          refine take_w (i := 16) (oi := ?oZ82) (v := ?vZ82) ?hiZ82 (by kernel_rfl) (by kernel_rfl) (by kernel_rfl) ?hQZ82 ?hwZ82 ?hyZ82 (by assumption) ?restZ82
          case hiZ82 => (simp only [List.getElem?_toArray, List.getElem?_cons_succ, List.getElem?_cons_zero] <;> rfl)
          case hQZ82 => exact (fun _ _ _ h => h)
          case hwZ82 => rfl
          case hyZ82 => (intro w hSw; (try dsimp only at hSw); go_simp; try with_reducible rfl)
          (try simp only [Act.put, List.setIfInBounds_toArray, List.set_cons_zero, List.set_cons_succ])
          refine wpAnyH_done (by kernel_rfl) ?_ _
          clear hHeld
          go_wp2_with fail
          exact ⟨⟨k + 1, by omega, by go_num, HL8.out.drew⟩, by simp [intOf]; omega⟩
        · obtain rfl : k = m := by omega
          have q1 : ¬ (k : Int) < (k : Int) := by omega
          go_wp2_with fail
          go_ret
          exact ⟨rfl, hl.b⟩
end Go.Proofs.Ytolpdidjabbipaa
