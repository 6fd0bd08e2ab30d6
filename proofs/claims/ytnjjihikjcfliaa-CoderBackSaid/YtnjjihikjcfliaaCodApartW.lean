/- The walk of the law CoderApart. -/
import Derived.Test.YtnjjihikjcfliaaCodNumW
namespace Go.Proofs.Ytnjjihikjcfliaa
open Go.RowKit
set_option linter.unusedVariables false

theorem ofNat_inj : ∀ {xs ys : List Int}, Bytes8 xs → Bytes8 ys → (xs.map fun n => UInt8.ofNat n.toNat) = (ys.map fun n => UInt8.ofNat n.toNat) → xs = ys
  | [], [], _, _, _ => rfl
  | [], _ :: _, _, _, h => by simp at h
  | _ :: _, [], _, _, h => by simp at h
  | x :: xs, y :: ys, hx, hy, h => by
    simp only [List.map_cons, List.cons.injEq] at h
    have h1 := hx x (by simp)
    have h2 := hy y (by simp)
    have h3 := congrArg UInt8.toNat h.1
    rw [UInt8.toNat_ofNat', UInt8.toNat_ofNat'] at h3
    rw [ofNat_inj (fun z hz => hx z (List.mem_cons_of_mem _ hz)) (fun z hz => hy z (List.mem_cons_of_mem _ hz)) h.2, show x = y by omega]
theorem str_ne {xs ys : List Int} (hx : Bytes8 xs) (hy : Bytes8 ys) (h : xs ≠ ys) : ((strOfNums xs).toList == (strOfNums ys).toList) = false := by
  rw [beq_eq_false_iff_ne]
  intro h1
  unfold strOfNums at h1
  rw [ByteArray.toList_mk, ByteArray.toList_mk] at h1
  exact h (ofNat_inj hx hy h1)
theorem numL_take {v u : Nat} (hv : v < 18446744073709551616) (hu : u < 18446744073709551616) (h : (numL u).take (numL v).length = numL v) : u = v := by
  have h1 := getNum_numL hv ((numL u).drop (numL v).length)
  have h3 := getNum_numL hu []
  have e : numL v ++ (numL u).drop (numL v).length = numL u := by
    conv => lhs; lhs; rw [← h]
    exact List.take_append_drop _ _
  rw [e] at h1
  rw [List.append_nil, h1] at h3
  injection h3 with h3
  injection h3 with h3
  exact h3.symm

set_option maxRecDepth 100000 in
set_option maxHeartbeats 2000000 in
theorem apart_law (v u : Nat) (a : Option Addr) (n cap : Nat) (ms : List Int) (w : World) (hv : v < 18446744073709551616) (hu : u < 18446744073709551616) (hin : InBytes w a n cap ms) (hn : n ≤ 140737488351232) :
    Calls Try.prog 7 #[.int .u64 v, .int .u64 u, .slice a n cap] w fun e w' => e = .returned (.bool true) ∧ Below w.heap.size w w' := by
  obtain ⟨i0, hi0, hz0, hz1, hz2⟩ := info_parts infoU8
  have hvb := numL_bytes hv
  have hub := numL_bytes hu
  have hv9 := numL_le hv
  have hu9 := numL_le hu
  have hvp := numL_pos v
  have hup := numL_pos u
  have hcore : ¬ u = v → ((strOfNums ((numL u).take (numL v).length)).toList == (strOfNums (numL v)).toList) = false := fun hne =>
    str_ne (fun z hz => hub z (List.mem_of_mem_take hz)) hvb (fun h => hne (numL_take hv hu h))
  have hrd := rdNum_numL hv ms
  have hml := hin.len
  have HN := Lib.hid (And.intro (fun W => number_any v W hv) (fun W => number_any u W hu))
  have HIN := Lib.hid hin
  have HC := Lib.hid (And.intro hcore (And.intro hvb (And.intro hub hrd)))
  clear hin hcore hvb hub hrd
  go_enter Try.func7, Try.ntmps7
  go_wp2_with fail
  refine (HN.out.1 _).mono ?_
  rintro _ w1 ⟨g1, c1, rfl, ho1, hb1⟩
  have HO1 := Lib.hid ho1
  have HB1 := Lib.hid hb1
  clear ho1 hb1
  go_wp2_with fail
  refine (HN.out.2 _).mono ?_
  rintro _ w2 ⟨g2, c2, rfl, ho2, hb2⟩
  have ho1 := own_below HO1.out hb2 (HO1.out.lt g1 rfl).2
  have HO2 := Lib.hid ho2
  have HO1b := Lib.hid ho1
  have HB2 : Hid (Below w.heap.size w w2) := Lib.hid (HB1.out.trans (hb2.mono HB1.out.size))
  have hcv1 := conv_own ho1 HC.out.2.1
  clear HO1 HB1 ho1
  have hq1 : (((numL v).length : Int) == 0) = false := by rw [beq_eq_false_iff_ne]; omega
  have hq2 : (((numL u).length : Int) == 0) = false := by rw [beq_eq_false_iff_ne]; omega
  by_cases hle : (numL v).length ≤ (numL u).length
  · have hle' : ((numL v).length : Int) ≤ ((numL u).length : Int) := by omega
    have hcv2 := conv_in (P := Try.prog) ((InBytes.of_own ho2 HC.out.2.2.1).upto (numL v).length hle) 23 5 9 Try.underlying23 Try.underlying5 Try.underlying9
    have hlc : ((numL v).length : Int) ≤ (c2 : Int) := by have := (InBytes.of_own ho2 HC.out.2.2.1).le; omega
    have hcq1 : ∀ m, (convert 23 9 (.slice (some ⟨g1, 0, none⟩) (numL v).length c1)).run Try.prog (w2.drewN m) = .ok (.string (strOfNums (numL v))) (w2.drewN m) := fun m =>
      conv_own (w := w2.drewN m) (HO1b.out) HC.out.2.1
    have hcq2 : ∀ m, (convert 23 9 (.slice (some ⟨g2, 0, none⟩) (numL v).length c2)).run Try.prog (w2.drewN m) = .ok (.string (strOfNums ((numL u).take (numL v).length))) (w2.drewN m) := fun m =>
      conv_in (P := Try.prog) ((InBytes.of_own (w := w2.drewN m) ho2 HC.out.2.2.1).upto (numL v).length hle) 23 5 9 Try.underlying23 Try.underlying5 Try.underlying9
    clear ho2 hb2
    go_wp2_with fail
    go_quiet (fail)
    have hB : ((strOfNums ((numL u).take (numL v).length)).toList == (strOfNums (numL v)).toList) = ((u : Int) == (v : Int)) := by
      by_cases huv : u = v
      · subst huv; simp
      · rw [HC.out.1 huv]
        symm
        rw [beq_eq_false_iff_ne]
        omega
    rw [hB]
    clear hB
    have HO3 : Hid ((w2.drewN nq).ownsRow w.heap.size 5 1 (.slice (some ⟨g1, 0, none⟩) (numL v).length c1) (numL v).length ((numL v).map (Value.int .u8))) := Lib.hid HO1b.out
    have HB3 : Hid (Below w.heap.size w (w2.drewN nq)) := Lib.hid ⟨HB2.out.os, HB2.out.tape, HB2.out.output, HB2.out.size, HB2.out.block⟩
    clear hcq1 hcq2 hcv1 hcv2 HO1b HB2 HO2
    generalize w2.drewN nq = w3 at *
    go_wp2_with (first
      | (at_builtin
         refine wpList_append_bytes' _ rfl (.tmp 38) (.tmp 39) 23 rfl w.heap.size 5 i0 _ 1 Try.underlying23 hi0 hz0 hz1 hz2 rfl w3.heap.size 0 0 [] rfl (own_new w3 5 .u8 [] w.heap.size HB3.out.size (by simp [maxLen])) (some ⟨g1, 0, none⟩) (numL v).length c1 (numL v) rfl ((InBytes.of_own HO3.out HC.out.2.1).below ((Below.refl _ _).alloc (Nat.le_refl _) _)) (by simp only [maxLen]; omega) (by omega) (by have := HB3.out.size; simp; omega) ?_
         intro g4 c4 w4 hown4 hg4
         rw [List.nil_append, Nat.zero_add] at hown4
         have HO4 := Lib.hid hown4
         have HB4 : Hid (Below w.heap.size w w4) := Lib.hid (below_only (HB3.out.alloc HB3.out.size _) hg4 (by have := HB3.out.size; simp; omega) HB3.out.size)
         clear hown4 hg4)
      | (at_builtin
         refine wpList_append_bytes' _ rfl (.tmp 40) (.tmp 41) 23 rfl w.heap.size 5 i0 _ 1 Try.underlying23 hi0 hz0 hz1 hz2 rfl g4 (numL v).length c4 ((numL v).map (Value.int .u8)) rfl HO4.out a n cap ms rfl (HIN.out.below HB4.out) (by simp only [maxLen]; omega) (by omega) HB4.out.size ?_
         intro g5 c5 w5 hown5 hg5
         rw [← List.map_append] at hown5
         have hi5 := InBytes.of_own hown5 (fun z hz => (List.mem_append.1 hz).elim (HC.out.2.1 z) (HIN.out.bytes z))
         have HI5 := Lib.hid hi5
         have HB5 : Hid (Below w.heap.size w w5) := Lib.hid (below_only HB4.out hg5 HB4.out.size (HO4.out.lt g4 rfl).1)
         clear hown5 hg5 hi5)
      | (go_at_call 13
         (with_reducible refine (newReader_any _ _ _ _ _ HI5.out ?_).mono ?_)
         · omega
         rintro _ w6 ⟨g6, gb6, rfl, hg6, hgb6, hpr6, hb6⟩
         have HP6 := Lib.hid hpr6
         have HB6 : Hid (Below w.heap.size w w6) := Lib.hid (HB5.out.trans (hb6.mono HB5.out.size))
         have hge6 : w.heap.size ≤ g6 := Nat.le_trans HB5.out.size hg6
         clear hpr6 hb6 hgb6 hg6)
      | (go_at_call 15
         (with_reducible refine (rdNumber_any _ _ _ _ HP6.out).mono ?_)
         rintro _ w7 ⟨rfl, hpr7, hg7⟩
         have HG7 := Lib.hid hg7
         have hrd := HC.out.2.2.2
         rw [hrd]
         clear hpr7 hg7))
    go_ret
    exact ⟨rfl, below_only HB6.out HG7.out HB6.out.size hge6⟩
  · have hle' : ¬ ((numL v).length : Int) ≤ ((numL u).length : Int) := by omega
    have hle2 : decide (((numL v).length : Int) ≤ ((numL u).length : Int)) = false := by simpa using hle'
    have huv : ((u : Int) == (v : Int)) = false := by
      rw [beq_eq_false_iff_ne]
      intro h
      have : u = v := by omega
      subst this
      omega
    clear ho2 hb2
    go_wp2_with fail
    go_quiet (fail)
    have HO3 : Hid ((w2.drewN nq).ownsRow w.heap.size 5 1 (.slice (some ⟨g1, 0, none⟩) (numL v).length c1) (numL v).length ((numL v).map (Value.int .u8))) := Lib.hid HO1b.out
    have HB3 : Hid (Below w.heap.size w (w2.drewN nq)) := Lib.hid ⟨HB2.out.os, HB2.out.tape, HB2.out.output, HB2.out.size, HB2.out.block⟩
    clear hcv1 HO1b HB2 HO2
    generalize w2.drewN nq = w3 at *
    go_wp2_with (first
      | (at_builtin
         refine wpList_append_bytes' _ rfl (.tmp 38) (.tmp 39) 23 rfl w.heap.size 5 i0 _ 1 Try.underlying23 hi0 hz0 hz1 hz2 rfl w3.heap.size 0 0 [] rfl (own_new w3 5 .u8 [] w.heap.size HB3.out.size (by simp [maxLen])) (some ⟨g1, 0, none⟩) (numL v).length c1 (numL v) rfl ((InBytes.of_own HO3.out HC.out.2.1).below ((Below.refl _ _).alloc (Nat.le_refl _) _)) (by simp only [maxLen]; omega) (by omega) (by have := HB3.out.size; simp; omega) ?_
         intro g4 c4 w4 hown4 hg4
         rw [List.nil_append, Nat.zero_add] at hown4
         have HO4 := Lib.hid hown4
         have HB4 : Hid (Below w.heap.size w w4) := Lib.hid (below_only (HB3.out.alloc HB3.out.size _) hg4 (by have := HB3.out.size; simp; omega) HB3.out.size)
         clear hown4 hg4)
      | (at_builtin
         refine wpList_append_bytes' _ rfl (.tmp 40) (.tmp 41) 23 rfl w.heap.size 5 i0 _ 1 Try.underlying23 hi0 hz0 hz1 hz2 rfl g4 (numL v).length c4 ((numL v).map (Value.int .u8)) rfl HO4.out a n cap ms rfl (HIN.out.below HB4.out) (by simp only [maxLen]; omega) (by omega) HB4.out.size ?_
         intro g5 c5 w5 hown5 hg5
         rw [← List.map_append] at hown5
         have hi5 := InBytes.of_own hown5 (fun z hz => (List.mem_append.1 hz).elim (HC.out.2.1 z) (HIN.out.bytes z))
         have HI5 := Lib.hid hi5
         have HB5 : Hid (Below w.heap.size w w5) := Lib.hid (below_only HB4.out hg5 HB4.out.size (HO4.out.lt g4 rfl).1)
         clear hown5 hg5 hi5)
      | (go_at_call 13
         (with_reducible refine (newReader_any _ _ _ _ _ HI5.out ?_).mono ?_)
         · omega
         rintro _ w6 ⟨g6, gb6, rfl, hg6, hgb6, hpr6, hb6⟩
         have HP6 := Lib.hid hpr6
         have HB6 : Hid (Below w.heap.size w w6) := Lib.hid (HB5.out.trans (hb6.mono HB5.out.size))
         have hge6 : w.heap.size ≤ g6 := Nat.le_trans HB5.out.size hg6
         clear hpr6 hb6 hgb6 hg6)
      | (go_at_call 15
         (with_reducible refine (rdNumber_any _ _ _ _ HP6.out).mono ?_)
         rintro _ w7 ⟨rfl, hpr7, hg7⟩
         have HG7 := Lib.hid hg7
         have hrd := HC.out.2.2.2
         rw [hrd]
         clear hpr7 hg7))
    go_ret
    exact ⟨rfl, below_only HB6.out HG7.out HB6.out.size hge6⟩
end Go.Proofs.Ytnjjihikjcfliaa
