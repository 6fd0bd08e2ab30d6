/- The contract of the document's Get of AVL trees. -/
import Derived.Test.YtpjojhmdgeejmaaRefIs
namespace Go.Proofs.Ytpjojhmdgeejmaa
open Go.RowKit
set_option linter.unusedVariables false

theorem AT.get_hit {a : AT} {key v : List Int} {i : Nat} (h : (a.pairs.take i).find? (fun p => p.1 == key) = none) (e : a.pairs[i]? = some (key, v)) : a.get key = some v := by
  obtain ⟨hi, e2⟩ := List.getElem?_eq_some_iff.1 e
  unfold AT.get
  rw [← List.take_append_drop i a.pairs, List.find?_append, h, Option.none_or, List.drop_eq_getElem_cons hi, e2, List.find?_cons]
  simp
theorem AT.get_step {a : AT} {key k v : List Int} {i : Nat} (h : (a.pairs.take i).find? (fun p => p.1 == key) = none) (e : a.pairs[i]? = some (k, v)) (hne : (k == key) = false) : (a.pairs.take (i + 1)).find? (fun p => p.1 == key) = none := by
  rw [List.take_add_one, List.find?_append, h, Option.none_or, e]
  simp only [Option.toList, List.find?_cons, hne, List.find?_nil]
theorem AT.get_miss {a : AT} {key : List Int} {n : Nat} (h : (a.pairs.take n).find? (fun p => p.1 == key) = none) (hn : a.pairs.length ≤ n) : a.get key = none := by
  rw [List.take_of_length_le hn] at h
  unfold AT.get
  rw [h]
  rfl
theorem AT.list_pairs (a : AT) : (listT a.tr).length = a.pairs.length := by
  rw [AT.tr_list, List.length_map, ← AT.nodes_kv, List.length_map]
/-- What the document's Get tells. -/
def RefGets (w : World) (o : Option (List Int)) (e : Ending) (w' : World) : Prop := ∃ a2 n2 c2, e = .returned (.tuple #[.slice a2 n2 c2, .bool o.isSome]) ∧ InBytes w' a2 n2 c2 (o.getD []) ∧ Below w.heap.size w w'

set_option maxRecDepth 100000 in
set_option maxHeartbeats 4000000 in
theorem refGet_any (a : AT) (h : TH) (key : List Int) (ka : Option Addr) (kn kc : Nat) (w : World) (ht : InTree w h a.tr) (hlim : Lim a.pairs) (hcn : countT a.tr ≤ 500) (hk : InBytes w ka kn kc key) : Calls Try.prog 21 #[h.v, .slice ka kn kc] w (RefGets w (a.get key)) := by
  unfold TH.v
  have hbox := Box.new w 33 h
  have HT := Lib.hid ht
  have HK := Lib.hid hk
  obtain ⟨x0, x1, x2, x3, x4⟩ := hbox.cells
  have hfo := (AT.tr_formed a).2 hlim
  have hln := list_len a.tr hfo
  have hlp := AT.list_pairs a
  generalize hn : (listT a.tr).length = n at hln hlp
  have HN := Lib.hid hn
  have hn5 : n ≤ 500 := by omega
  have HFO := Lib.hid hfo
  have HLP := Lib.hid hlp
  clear hbox ht hk hfo hln hn hlp
  go_enter Try.func21, Try.ntmps21
  go_upto_region 2 with (first
    | (go_at_call 31
       refine (refList_any a.tr h _ _ ?_ (Below.refl _ _) HFO.out hcn).mono ?_
       · exact HT.out.lower ((Below.refl _ _).alloc (Nat.le_refl _) _)
       rintro _ w3 ⟨v3, hs, rfl, ho3, hh3, hb3⟩
       obtain ⟨la, lc, hv3⟩ := ho3.sl
       rw [hh3.1, HN.out] at hv3
       subst hv3
       have HS3 : Hid (LS w w3 la n lc hs (listT a.tr)) := Lib.hid ⟨ho3.weak (by simp), hh3.lower hb3, ((Below.refl w.heap.size w).alloc (Nat.le_refl _) _).trans (hb3.mono (by simp))⟩
       clear ho3 hh3 hb3 x0 x1 x2 x3 x4))
  go_wp2_with fail
  go_loopw [7] (fun s7 wx => ∃ i : Nat, i ≤ n ∧ s7 = .int .i64 i ∧ LS w wx la n lc hs (listT a.tr) ∧ (a.pairs.take i).find? (fun p => p.1 == key) = none) (fun s7 _ => n - (intOf s7).toNat)
  case atStart => exact ⟨0, by omega, rfl, HS3.out, rfl⟩
  case round =>
    clear HS3
    obtain ⟨i, hi, rfl, hls, hall⟩ := hrel
    have HALL := Lib.hid hall
    by_cases hlt : i < n
    · have q1 : (i : Int) < (n : Int) := by omega
      have hhl : hs.length = n := hls.hh.1.trans HN.out
      have him : i < hs.length := by omega
      have him2 : i < (listT a.tr).length := by rw [HN.out]; exact hlt
      obtain ⟨g, hga, -⟩ := hls.o.at hhl i him
      subst hga
      obtain ⟨l, k, v, r, e1, -, -, e4⟩ := AT.node_at a i him2
      have HE4 := Lib.hid e4
      have hkv := hls.key i him him2 e1
      have HKV := Lib.hid (hls.drew.key i him him2 e1)
      have HS := Lib.hid hls.drew
      have he : ((strOfNums k).toList == (strOfNums key).toList) = (k == key) := str_eq hkv.1.bytes HK.out.bytes
      have HS5 : Hid ((fun W => W.cell? ⟨g, i * 5 + 1, none⟩ = some (.slice (hs[i]).ka (hs[i]).kn (hs[i]).kc) ∧ (convert 22 9 (.slice (hs[i]).ka (hs[i]).kn (hs[i]).kc)).run Try.prog W = .ok (.string (strOfNums k)) W ∧ (convert 22 9 (.slice ka kn kc)).run Try.prog W = .ok (.string (strOfNums key)) W) wr.drew) := Lib.hid ⟨(hls.drew.cells hhl i him).2.1, conv_key (hls.drew.key i him him2 e1).1, conv_key (HK.out.below hls.drew.b)⟩
      clear hls hall e1 e4 hkv
      cases hc : (k == key) with
      | true =>
        have HC := Lib.hid hc
        rw [hc] at he
        clear hc
        go_upto_region 5 with fail
        refine wp_region_held_drew (S := (fun W => W.cell? ⟨g, i * 5 + 1, none⟩ = some (.slice (hs[i]).ka (hs[i]).kn (hs[i]).kc) ∧ (convert 22 9 (.slice (hs[i]).ka (hs[i]).kn (hs[i]).kc)).run Try.prog W = .ok (.string (strOfNums k)) W ∧ (convert 22 9 (.slice ka kn kc)).run Try.prog W = .ok (.string (strOfNums key)) W)) (by kernel_rfl) HS5.out (fun hHeld => ?_)
        refine take_w (i := 0) (oi := ?oZ1) (v := ?vZ1) ?hiZ1 (by kernel_rfl) (by kernel_rfl) (by kernel_rfl) ?hQZ1 ?hwZ1 ?hyZ1 (by assumption) ?restZ1
        case hiZ1 => (simp only [List.getElem?_toArray, List.getElem?_cons_zero] <;> rfl)
        case hQZ1 => exact (fun _ _ _ h => h)
        case hwZ1 => rfl
        case hyZ1 => (intro w hSw; (try dsimp only at hSw); go_simp; try with_reducible rfl)
        (try simp only [Act.put, List.setIfInBounds_toArray, List.set_cons_zero, List.set_cons_succ])
        refine take_w (i := 1) (oi := ?oZ2) (v := ?vZ2) ?hiZ2 (by kernel_rfl) (by kernel_rfl) (by kernel_rfl) ?hQZ2 ?hwZ2 ?hyZ2 (by assumption) ?restZ2
        case hiZ2 => (simp only [List.getElem?_toArray, List.getElem?_cons_succ, List.getElem?_cons_zero] <;> rfl)
        case hQZ2 => exact (fun _ _ _ h => h)
        case hwZ2 => rfl
        case hyZ2 => (intro w hSw; (try dsimp only at hSw); go_simp; try with_reducible rfl)
        (try simp only [Act.put, List.setIfInBounds_toArray, List.set_cons_zero, List.set_cons_succ])
        refine take_w (i := 2) (oi := ?oZ3) (v := ?vZ3) ?hiZ3 (by kernel_rfl) (by kernel_rfl) (by kernel_rfl) ?hQZ3 ?hwZ3 ?hyZ3 (by assumption) ?restZ3
        case hiZ3 => (simp only [List.getElem?_toArray, List.getElem?_cons_succ, List.getElem?_cons_zero] <;> rfl)
        case hQZ3 => exact (fun _ _ _ h => h)
        case hwZ3 => rfl
        case hyZ3 => (intro w hSw; (try dsimp only at hSw); go_simp; try with_reducible rfl)
        (try simp only [Act.put, List.setIfInBounds_toArray, List.set_cons_zero, List.set_cons_succ])
        refine take_w (i := 3) (oi := ?oZ4) (v := ?vZ4) ?hiZ4 (by kernel_rfl) (by kernel_rfl) (by kernel_rfl) ?hQZ4 ?hwZ4 ?hyZ4 (by assumption) ?restZ4
        case hiZ4 => (simp only [List.getElem?_toArray, List.getElem?_cons_succ, List.getElem?_cons_zero] <;> rfl)
        case hQZ4 => exact (fun _ _ _ h => h)
        case hwZ4 => rfl
        case hyZ4 => (intro w hSw; (try dsimp only at hSw); go_simp; try with_reducible rfl)
        (try simp only [Act.put, List.setIfInBounds_toArray, List.set_cons_zero, List.set_cons_succ])
        refine take_w (i := 4) (oi := ?oZ5) (v := ?vZ5) ?hiZ5 (by kernel_rfl) (by kernel_rfl) (by kernel_rfl) ?hQZ5 ?hwZ5 ?hyZ5 (by assumption) ?restZ5
        case hiZ5 => (simp only [List.getElem?_toArray, List.getElem?_cons_succ, List.getElem?_cons_zero] <;> rfl)
        case hQZ5 => exact (fun _ _ _ h => h)
        case hwZ5 => rfl
        case hyZ5 => (intro w hSw; (try dsimp only at hSw); go_simp; try with_reducible rfl)
        (try simp only [Act.put, List.setIfInBounds_toArray, List.set_cons_zero, List.set_cons_succ])
        refine take_w (i := 5) (oi := ?oZ6) (v := ?vZ6) ?hiZ6 (by kernel_rfl) (by kernel_rfl) (by kernel_rfl) ?hQZ6 ?hwZ6 ?hyZ6 (by assumption) ?restZ6
        case hiZ6 => (simp only [List.getElem?_toArray, List.getElem?_cons_succ, List.getElem?_cons_zero] <;> rfl)
        case hQZ6 => exact (fun _ _ _ h => h)
        case hwZ6 => rfl
        case hyZ6 => (intro w hSw; (try dsimp only at hSw); go_simp; try with_reducible rfl)
        (try simp only [Act.put, List.setIfInBounds_toArray, List.set_cons_zero, List.set_cons_succ])
        refine take_w (i := 6) (oi := ?oZ7) (v := ?vZ7) ?hiZ7 (by kernel_rfl) (by kernel_rfl) (by kernel_rfl) ?hQZ7 ?hwZ7 ?hyZ7 (by assumption) ?restZ7
        case hiZ7 => (simp only [List.getElem?_toArray, List.getElem?_cons_succ, List.getElem?_cons_zero] <;> rfl)
        case hQZ7 => exact (fun _ _ _ h => h)
        case hwZ7 => rfl
        case hyZ7 => (intro w hSw; (try dsimp only at hSw); go_simp; try with_reducible rfl)
        (try simp only [Act.put, List.setIfInBounds_toArray, List.set_cons_zero, List.set_cons_succ])
        refine take_w (i := 7) (oi := ?oZ8) (v := ?vZ8) ?hiZ8 (by kernel_rfl) (by kernel_rfl) (by kernel_rfl) ?hQZ8 ?hwZ8 ?hyZ8 (by assumption) ?restZ8
        case hiZ8 => (simp only [List.getElem?_toArray, List.getElem?_cons_succ, List.getElem?_cons_zero] <;> rfl)
        case hQZ8 => exact (fun _ _ _ h => h)
        case hwZ8 => rfl
        case hyZ8 => (intro w hSw; (try dsimp only at hSw); go_simp; try with_reducible rfl)
        (try simp only [Act.put, List.setIfInBounds_toArray, List.set_cons_zero, List.set_cons_succ])
        refine take_w (i := 8) (oi := ?oZ9) (v := ?vZ9) ?hiZ9 (by kernel_rfl) (by kernel_rfl) (by kernel_rfl) ?hQZ9 ?hwZ9 ?hyZ9 (by assumption) ?restZ9
        case hiZ9 => (simp only [List.getElem?_toArray, List.getElem?_cons_succ, List.getElem?_cons_zero] <;> rfl)
        case hQZ9 => exact (fun _ _ _ h => h)
        case hwZ9 => rfl
        case hyZ9 => (intro w hSw; (try dsimp only at hSw); go_simp; try with_reducible rfl)
        (try simp only [Act.put, List.setIfInBounds_toArray, List.set_cons_zero, List.set_cons_succ])
        refine wpAnyH_done (by kernel_rfl) ?_ _
        clear hHeld
        clear HS5
        have y2 := (HS.out.cells hhl i him).2.2.1
        go_wp2_with fail
        go_ret2
        have hke : k = key := by simpa using HC.out
        have hg : a.get key = some v := AT.get_hit HALL.out (by rw [← hke]; exact HE4.out)
        refine ⟨(hs[i]).va, (hs[i]).vn, (hs[i]).vc, by rw [hg]; rfl, ?_, HS.out.b⟩
        rw [hg]
        exact HKV.out.2
      | false =>
        have HC := Lib.hid hc
        rw [hc] at he
        clear hc
        go_upto_region 5 with fail
        refine wp_region_held_drew (S := (fun W => W.cell? ⟨g, i * 5 + 1, none⟩ = some (.slice (hs[i]).ka (hs[i]).kn (hs[i]).kc) ∧ (convert 22 9 (.slice (hs[i]).ka (hs[i]).kn (hs[i]).kc)).run Try.prog W = .ok (.string (strOfNums k)) W ∧ (convert 22 9 (.slice ka kn kc)).run Try.prog W = .ok (.string (strOfNums key)) W)) (by kernel_rfl) HS5.out (fun hHeld => ?_)
        refine take_w (i := 0) (oi := ?oZ10) (v := ?vZ10) ?hiZ10 (by kernel_rfl) (by kernel_rfl) (by kernel_rfl) ?hQZ10 ?hwZ10 ?hyZ10 (by assumption) ?restZ10
        case hiZ10 => (simp only [List.getElem?_toArray, List.getElem?_cons_zero] <;> rfl)
        case hQZ10 => exact (fun _ _ _ h => h)
        case hwZ10 => rfl
        case hyZ10 => (intro w hSw; (try dsimp only at hSw); go_simp; try with_reducible rfl)
        (try simp only [Act.put, List.setIfInBounds_toArray, List.set_cons_zero, List.set_cons_succ])
        refine take_w (i := 1) (oi := ?oZ11) (v := ?vZ11) ?hiZ11 (by kernel_rfl) (by kernel_rfl) (by kernel_rfl) ?hQZ11 ?hwZ11 ?hyZ11 (by assumption) ?restZ11
        case hiZ11 => (simp only [List.getElem?_toArray, List.getElem?_cons_succ, List.getElem?_cons_zero] <;> rfl)
        case hQZ11 => exact (fun _ _ _ h => h)
        case hwZ11 => rfl
        case hyZ11 => (intro w hSw; (try dsimp only at hSw); go_simp; try with_reducible rfl)
        (try simp only [Act.put, List.setIfInBounds_toArray, List.set_cons_zero, List.set_cons_succ])
        refine take_w (i := 2) (oi := ?oZ12) (v := ?vZ12) ?hiZ12 (by kernel_rfl) (by kernel_rfl) (by kernel_rfl) ?hQZ12 ?hwZ12 ?hyZ12 (by assumption) ?restZ12
        case hiZ12 => (simp only [List.getElem?_toArray, List.getElem?_cons_succ, List.getElem?_cons_zero] <;> rfl)
        case hQZ12 => exact (fun _ _ _ h => h)
        case hwZ12 => rfl
        case hyZ12 => (intro w hSw; (try dsimp only at hSw); go_simp; try with_reducible rfl)
        (try simp only [Act.put, List.setIfInBounds_toArray, List.set_cons_zero, List.set_cons_succ])
        refine take_w (i := 3) (oi := ?oZ13) (v := ?vZ13) ?hiZ13 (by kernel_rfl) (by kernel_rfl) (by kernel_rfl) ?hQZ13 ?hwZ13 ?hyZ13 (by assumption) ?restZ13
        case hiZ13 => (simp only [List.getElem?_toArray, List.getElem?_cons_succ, List.getElem?_cons_zero] <;> rfl)
        case hQZ13 => exact (fun _ _ _ h => h)
        case hwZ13 => rfl
        case hyZ13 => (intro w hSw; (try dsimp only at hSw); go_simp; try with_reducible rfl)
        (try simp only [Act.put, List.setIfInBounds_toArray, List.set_cons_zero, List.set_cons_succ])
        refine take_w (i := 4) (oi := ?oZ14) (v := ?vZ14) ?hiZ14 (by kernel_rfl) (by kernel_rfl) (by kernel_rfl) ?hQZ14 ?hwZ14 ?hyZ14 (by assumption) ?restZ14
        case hiZ14 => (simp only [List.getElem?_toArray, List.getElem?_cons_succ, List.getElem?_cons_zero] <;> rfl)
        case hQZ14 => exact (fun _ _ _ h => h)
        case hwZ14 => rfl
        case hyZ14 => (intro w hSw; (try dsimp only at hSw); go_simp; try with_reducible rfl)
        (try simp only [Act.put, List.setIfInBounds_toArray, List.set_cons_zero, List.set_cons_succ])
        refine take_w (i := 5) (oi := ?oZ15) (v := ?vZ15) ?hiZ15 (by kernel_rfl) (by kernel_rfl) (by kernel_rfl) ?hQZ15 ?hwZ15 ?hyZ15 (by assumption) ?restZ15
        case hiZ15 => (simp only [List.getElem?_toArray, List.getElem?_cons_succ, List.getElem?_cons_zero] <;> rfl)
        case hQZ15 => exact (fun _ _ _ h => h)
        case hwZ15 => rfl
        case hyZ15 => (intro w hSw; (try dsimp only at hSw); go_simp; try with_reducible rfl)
        (try simp only [Act.put, List.setIfInBounds_toArray, List.set_cons_zero, List.set_cons_succ])
        refine take_w (i := 6) (oi := ?oZ16) (v := ?vZ16) ?hiZ16 (by kernel_rfl) (by kernel_rfl) (by kernel_rfl) ?hQZ16 ?hwZ16 ?hyZ16 (by assumption) ?restZ16
        case hiZ16 => (simp only [List.getElem?_toArray, List.getElem?_cons_succ, List.getElem?_cons_zero] <;> rfl)
        case hQZ16 => exact (fun _ _ _ h => h)
        case hwZ16 => rfl
        case hyZ16 => (intro w hSw; (try dsimp only at hSw); go_simp; try with_reducible rfl)
        (try simp only [Act.put, List.setIfInBounds_toArray, List.set_cons_zero, List.set_cons_succ])
        refine take_w (i := 7) (oi := ?oZ17) (v := ?vZ17) ?hiZ17 (by kernel_rfl) (by kernel_rfl) (by kernel_rfl) ?hQZ17 ?hwZ17 ?hyZ17 (by assumption) ?restZ17
        case hiZ17 => (simp only [List.getElem?_toArray, List.getElem?_cons_succ, List.getElem?_cons_zero] <;> rfl)
        case hQZ17 => exact (fun _ _ _ h => h)
        case hwZ17 => rfl
        case hyZ17 => (intro w hSw; (try dsimp only at hSw); go_simp; try with_reducible rfl)
        (try simp only [Act.put, List.setIfInBounds_toArray, List.set_cons_zero, List.set_cons_succ])
        refine take_w (i := 8) (oi := ?oZ18) (v := ?vZ18) ?hiZ18 (by kernel_rfl) (by kernel_rfl) (by kernel_rfl) ?hQZ18 ?hwZ18 ?hyZ18 (by assumption) ?restZ18
        case hiZ18 => (simp only [List.getElem?_toArray, List.getElem?_cons_succ, List.getElem?_cons_zero] <;> rfl)
        case hQZ18 => exact (fun _ _ _ h => h)
        case hwZ18 => rfl
        case hyZ18 => (intro w hSw; (try dsimp only at hSw); go_simp; try with_reducible rfl)
        (try simp only [Act.put, List.setIfInBounds_toArray, List.set_cons_zero, List.set_cons_succ])
        refine wpAnyH_done (by kernel_rfl) ?_ _
        clear hHeld
        clear HS5
        go_wp2_with fail
        exact ⟨⟨i + 1, by omega, by go_num, HS.out, AT.get_step HALL.out HE4.out HC.out⟩, by simp [intOf]; omega⟩
    · obtain rfl : i = n := by omega
      have q1 : ¬ (i : Int) < (i : Int) := by omega
      go_wp2_with fail
      go_ret2
      have hg : a.get key = none := AT.get_miss HALL.out (by rw [← HLP.out]; exact Nat.le_refl _)
      refine ⟨none, 0, 0, by rw [hg]; rfl, ?_, hls.b⟩
      rw [hg]
      exact none_in _

end Go.Proofs.Ytpjojhmdgeejmaa
