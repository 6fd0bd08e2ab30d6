/- The walk of the laws CoderNumbers and CoderBytes. -/
import Derived.Test.YtnjjihikjcfliaaPrRb
import Derived.Lib.SlBytesConst
namespace Go.Proofs.Ytnjjihikjcfliaa
open Go.RowKit
set_option linter.unusedVariables false

theorem num248 : numL 248 = [248, 248] := by
  have h : nd 248 = 1 := by rw [nd_pos (by omega), show 248 / 256 = 0 by omega, nd_zero]
  simp [numL, h, be]
theorem conv_own {w : World} {base g c : Nat} {zs : List Int} (h : w.ownsRow base 5 1 (.slice (some ⟨g, 0, none⟩) zs.length c) zs.length (zs.map (Value.int .u8))) (hb : Bytes8 zs) :
    (convert 23 9 (.slice (some ⟨g, 0, none⟩) zs.length c)).run Try.prog w = .ok (.string (strOfNums zs)) w :=
  conv_in (P := Try.prog) (InBytes.of_own h hb) 23 5 9 Try.underlying23 Try.underlying5 Try.underlying9

theorem own_below {w w' : World} {base B g n c : Nat} {e : TypeId} {xs : List Value} (h : w.ownsRow base e 1 (.slice (some ⟨g, 0, none⟩) n c) n xs) (hb : Below B w w') (hg : g < B) : w'.ownsRow base e 1 (.slice (some ⟨g, 0, none⟩) n c) n xs := by
  rcases h.2 with ⟨h1, _⟩ | ⟨g', c', cur, h1, h2, h3, h4⟩
  · cases h1
  · injection h1 with e1 e2 e3
    injection e1 with e1
    injection e1 with e1
    subst e1
    exact ⟨h.1, .inr ⟨g, c', cur, by rw [e3], h2, (hb.block g hg).trans h3, h4⟩⟩
theorem number248 (W : World) : Calls Try.prog 9 #[.int .u64 248] W (fun e w' => ∃ g c, e = .returned (.slice (some ⟨g, 0, none⟩) 2 c) ∧ (convert 23 9 (.slice (some ⟨g, 0, none⟩) 2 c)).run Try.prog w' = .ok (.string ⟨#[248, 248]⟩) w' ∧ Below W.heap.size W w') := by
  refine (number_any 248 W (by omega)).mono ?_
  rintro _ w1 ⟨g, c, rfl, ho, hb⟩
  have h := conv_own ho (numL_bytes (by omega))
  rw [num248] at h
  refine ⟨g, c, by rw [num248]; rfl, h, hb⟩

set_option maxRecDepth 100000 in
set_option maxHeartbeats 2000000 in
theorem numbers_law (v : Nat) (w : World) (hv : v < 18446744073709551616) :
    Calls Try.prog 3 #[.int .u64 v] w fun e w' => e = .returned (.bool true) ∧ Below w.heap.size w w' := by
  have h248 := Lib.hid number248
  have hnb := Lib.hid (numL_bytes hv)
  have hnum := Lib.hid (fun W => number_any v W hv)
  have href := Lib.hid (fun W => refNumber_any v W hv)
  go_enter Try.func3, Try.ntmps3
  go_wp2_with fail
  go_region_with (first
    | (go_at_call 9
       (with_reducible refine (h248.out _).mono ?_)
       rintro _ w1 ⟨g1, c1, rfl, hc1, hb1⟩
       have HB1 := Lib.hid hb1
       clear hb1)
    | (go_at_call 9
       (with_reducible refine (hnum.out _).mono ?_)
       rintro _ w2 ⟨g2, c2, rfl, ho2, hb2⟩
       have hc2 := conv_own ho2 hnb.out
       have HO2 := Lib.hid ho2
       have HB2 := Lib.hid hb2
       clear hb2 ho2)
    | (go_at_call 10
       (with_reducible refine (href.out _).mono ?_)
       rintro _ w3 ⟨g3, c3, rfl, ho3, hb3⟩
       have hc3 := conv_own ho3 hnb.out
       have hc4 := conv_own (own_below HO2.out hb3 (HO2.out.lt g2 rfl).2) hnb.out
       have HB3 := Lib.hid hb3
       clear hb3 ho3))
  all_goals
    go_wp2_with fail
    go_ret
    exact ⟨rfl, ((Below.refl w.heap.size w).drew.trans (HB1.out.trans (HB2.out.mono HB1.out.size))).trans (HB3.out.mono (Nat.le_trans HB1.out.size HB2.out.size))⟩

theorem byt97 : bytL [97] = [1, 97] := by simp [bytL, numL]
set_option maxRecDepth 100000 in
set_option maxHeartbeats 2000000 in
theorem bytes_law (a : Option Addr) (n cap : Nat) (bs : List Int) (w : World) (hin : InBytes w a n cap bs) (hn : n ≤ 140737488351232) :
    Calls Try.prog 4 #[.slice a n cap] w fun e w' => e = .returned (.bool true) ∧ Below w.heap.size w w' := by
  have hnb := Lib.hid (bytL_bytes hin.bytes (by rw [hin.len]; omega))
  have hcv : (convert 23 23 (.slice (some ⟨w.heap.size, 0, none⟩) 1 1)).run Try.prog (w.alloc (.cells #[.int .u8 97] 5)).drew = .ok (.slice (some ⟨w.heap.size, 0, none⟩) 1 1) (w.drew.alloc (.cells #[.int .u8 97] 5 (1, 2))) :=
    Lib.run_convert_bytes_const w.drew 23 5 #[.int .u8 97] 1 1 Try.underlying23 Try.underlying5
  have h97 : ∀ W, W.heap[w.heap.size]? = some (.cells #[.int .u8 97] 5 (1, 2)) → Calls Try.prog 11 #[.slice (some ⟨w.heap.size, 0, none⟩) 1 1] W (fun e w' => ∃ g c, e = .returned (.slice (some ⟨g, 0, none⟩) 2 c) ∧ (convert 23 9 (.slice (some ⟨g, 0, none⟩) 2 c)).run Try.prog w' = .ok (.string ⟨#[1, 97]⟩) w' ∧ Below W.heap.size W w') := fun W hW => by
    have hlt : w.heap.size < W.heap.size := by
      rcases Nat.lt_or_ge w.heap.size W.heap.size with h | h
      · exact h
      · rw [Array.getElem?_eq_none h] at hW; cases hW
    refine (bytes_any (some ⟨w.heap.size, 0, none⟩) 1 1 [97] W ⟨rfl, (fun z hz => by simp at hz; omega), Nat.le_refl _, by simp [maxLen], (fun h => by cases h), fun _ => ⟨w.heap.size, 0, rfl, hlt, fun i hi => ?_⟩⟩ (by omega)).mono ?_
    · have h0 : i = 0 := by simpa using hi
      subst h0
      rw [cell_of_row W w.heap.size (0 + 0) _ _ _ hW]
      simp
    · rintro _ w1 ⟨g, c, rfl, ho, hb⟩
      have h := conv_own ho (bytL_bytes (fun z hz => by simp at hz; omega) (by simp))
      rw [byt97] at h
      exact ⟨g, c, by rw [byt97]; rfl, h, hb⟩
  have hbyt := Lib.hid (fun W hW => bytes_any a n cap bs W (hin.below hW) hn)
  have href := Lib.hid (fun W hW => refBytes_any a n cap bs W (hin.below hW) hn)
  have H97 := Lib.hid h97
  clear hin h97
  go_enter Try.func4, Try.ntmps4
  go_wp2_with fail
  go_region_with (first
    | (go_at_call 11
       (with_reducible refine (H97.out _ ?_).mono ?_)
       · exact heap_alloc_new w _
       rintro _ w1 ⟨g1, c1, rfl, hc1, hb1⟩
       have HB1 : Hid (Below w.heap.size w w1) := Lib.hid ((((Below.refl w.heap.size w).drew.alloc (Nat.le_refl _) _)).trans (hb1.mono (by simp)))
       clear hb1)
    | (go_at_call 11
       (with_reducible refine (hbyt.out _ ?_).mono ?_)
       · exact HB1.out
       rintro _ w2 ⟨g2, c2, rfl, ho2, hb2⟩
       have hc2 := conv_own ho2 hnb.out
       have HO2 := Lib.hid ho2
       have HB2 : Hid (Below w.heap.size w w2) := Lib.hid (HB1.out.trans (hb2.mono HB1.out.size))
       clear hb2 ho2)
    | (go_at_call 12
       (with_reducible refine (href.out _ ?_).mono ?_)
       · exact HB2.out
       rintro _ w3 ⟨g3, c3, rfl, ho3, hb3⟩
       have hc3 := conv_own ho3 hnb.out
       have hc4 := conv_own (own_below HO2.out hb3 (HO2.out.lt g2 rfl).2) hnb.out
       have HB3 : Hid (Below w.heap.size w w3) := Lib.hid (HB2.out.trans (hb3.mono HB2.out.size))
       clear hb3 ho3))
  all_goals
    go_wp2_with fail
    go_ret
    exact ⟨rfl, HB3.out⟩
end Go.Proofs.Ytnjjihikjcfliaa
