/- The contract of the document's reader of bytes. -/
import Derived.Test.YtnjjihikjcfliaaRefRd
namespace Go.Proofs.Ytnjjihikjcfliaa
open Go.RowKit
set_option linter.unusedVariables false

theorem rdNum_lt {s : Option (List Int)} {r : List Int} (h : (rdNum s).2 = some r) (hb : ∀ r, s = some r → Bytes8 r) : (rdNum s).1 < 18446744073709551616 := by
  cases s with
  | none => simp [rdNum] at h
  | some l =>
    simp only [rdNum] at h ⊢
    split at h
    · cases h
    · rename_i v r' e
      exact getNum_lt (hb l rfl) e
def RefBytesPost (w : World) (g : Nat) (a : Option Addr) (n cap : Nat) (bs l : List Int) (s : Option (List Int)) (e : Ending) (w' : World) : Prop :=
  ∃ a2 c2, e = .returned (.slice a2 l.length c2) ∧ InBytes w' a2 l.length c2 l ∧ RefRd w' g a n cap bs s ∧ w.grownBy w' (some g)
theorem nil_in (w : World) : InBytes w none 0 0 [] := ⟨rfl, (fun z hz => by cases hz), Nat.le_refl _, by simp [maxLen], fun _ => rfl, (fun h => by omega)⟩

set_option maxRecDepth 100000 in
set_option maxHeartbeats 2000000 in
theorem refRdBytes_any (g : Nat) (a : Option Addr) (n cap : Nat) (bs : List Int) (s : Option (List Int)) (most : Int) (w : World) (hin : InBytes w a n cap bs) (hag : 0 < n → ∀ ad, a = some ad → ad.block ≠ g) (hr : RefRd w g a n cap bs s) (hb8 : ∀ r, s = some r → Bytes8 r) (hm1 : -9223372036854775808 ≤ most) (hm2 : most ≤ 9223372036854775807) (hn : n ≤ 140737488355328) :
    Calls Try.prog 20 #[.pointer (some ⟨g, 0, none⟩), .int .i64 most] w (RefBytesPost w g a n cap bs (rdBytes most s).1 (rdBytes most s).2) := by
  obtain ⟨i0, hi0, hz0, hz1, hz2⟩ := info_parts infoU8
  have hbl := hin.len
  have hle := hin.le
  have hmax := hin.max
  simp only [maxLen] at hmax
  have HIN := Lib.hid hin
  have HR := Lib.hid hr
  have HB8 := Lib.hid hb8
  clear hin hr hb8
  go_enter Try.func20, Try.ntmps20
  go_wp2_with fail
  refine (refRdNumber_any g a n cap bs s _ HIN.out hag HR.out HB8.out).mono ?_
  rintro _ w1 ⟨rfl, ⟨at', bad, hd, hat, hnone, hsome⟩, hg1⟩
  have hin1 := HIN.out.grownP hg1 (fun h0 ad h => by simp; exact hag h0 ad h)
  have c0 := hd.cell0
  have c1 := hd.cell1
  have c2 := hd.cell2
  have f1 := hd.frozen 1
  have f2 := hd.frozen 2
  have HD := Lib.hid hd
  have HIN1 := Lib.hid hin1
  have HG1 := Lib.hid hg1
  clear hd hin1 hg1
  cases hs : (rdNum s).2 with
  | none =>
    have e1 : rdBytes most s = ([], none) := by simp only [rdBytes, hs]
    obtain rfl := hnone hs
    clear hnone hsome
    generalize (rdNum s).1 = v at *
    have HE := Lib.hid e1
    clear hs e1
    go_wp2_with fail
    go_quiet (fail)
    go_wp2_with fail
    go_ret
    rw [HE.out]
    exact ⟨none, 0, rfl, nil_in _, ⟨at', true, (HD.out.drewN nq).set2 true, hat, fun _ => rfl, fun r h => by cases h⟩, only_set (only_drawn HG1.out nq) 2 _⟩
  | some r =>
    have hv := rdNum_lt hs HB8.out
    obtain ⟨rfl, hr⟩ := hsome r hs
    have e1 : rdBytes most s = if most < 0 ∨ most < ((rdNum s).1 : Int) ∨ r.length < (rdNum s).1 then ([], none) else (r.take (rdNum s).1, some (r.drop (rdNum s).1)) := by simp only [rdBytes, hs]
    generalize (rdNum s).1 = v at *
    have HE := Lib.hid e1
    have hrl : r.length = n - at' := by rw [hr, List.length_drop, hbl]
    clear hnone hsome hs e1
    have u1 : IntKind.u64.wrap ((n : Int) - (at' : Int)) = (n : Int) - (at' : Int) := IntWalk.u64_in _ (by omega)
    have u0 : IntKind.i64.wrap ((n : Int) - (at' : Int)) = (n : Int) - (at' : Int) := IntWalk.i64_in _ (by omega)
    by_cases h1 : most < 0
    · go_wp2_with fail
      go_quiet (fail)
      go_wp2_with fail
      go_ret
      rw [HE.out, if_pos (.inl h1)]
      exact ⟨none, 0, rfl, nil_in _, ⟨at', true, (HD.out.drewN nq).set2 true, hat, fun _ => rfl, fun r h => by cases h⟩, only_set (only_drawn HG1.out nq) 2 _⟩
    · have h1' : decide (most < 0) = false := by simpa using h1
      have u2 : IntKind.u64.wrap most = most := IntWalk.u64_in _ (by omega)
      by_cases h2 : most < (v : Int)
      · go_wp2_with fail
        go_quiet (fail)
        go_wp2_with fail
        go_ret
        rw [HE.out, if_pos (.inr (.inl h2))]
        exact ⟨none, 0, rfl, nil_in _, ⟨at', true, (HD.out.drewN nq).set2 true, hat, fun _ => rfl, fun r h => by cases h⟩, only_set (only_drawn HG1.out nq) 2 _⟩
      · have h2' : decide (most < (v : Int)) = false := by simpa using h2
        by_cases h3 : r.length < v
        · have h3' : (n : Int) - (at' : Int) < (v : Int) := by omega
          go_wp2_with fail
          go_quiet (fail)
          go_wp2_with fail
          go_ret
          rw [HE.out, if_pos (.inr (.inr h3))]
          exact ⟨none, 0, rfl, nil_in _, ⟨at', true, (HD.out.drewN nq).set2 true, hat, fun _ => rfl, fun r h => by cases h⟩, only_set (only_drawn HG1.out nq) 2 _⟩
        · have h3' : decide ((n : Int) - (at' : Int) < (v : Int)) = false := by simp; omega
          go_wp2_with fail
          go_quiet (fail)
          go_wp2_with fail
          have hvn : (v : Int) ≤ (n : Int) - (at' : Int) := by omega
          have u3 : IntKind.i64.wrap (v : Int) = (v : Int) := IntWalk.i64_in _ (by omega)
          have u4 : IntKind.i64.wrap ((at' : Int) + (v : Int)) = (at' : Int) + (v : Int) := IntWalk.i64_in _ (by omega)
          have u5 : (0 : Int) ≤ (at' : Int) := by omega
          have u6 : (at' : Int) ≤ (at' : Int) + (v : Int) := by omega
          have u7 : (at' : Int) + (v : Int) ≤ (cap : Int) := by omega
          have u8 : ((at' : Int) + (v : Int)).toNat = at' + v := by omega
          have u9 : at' + v - at' = v := by omega
          have HD2 : Hid (RD (w1.drewN nq) g a n cap at' false) := Lib.hid (HD.out.drewN nq)
          have HG2 : Hid (w.grownBy (w1.drewN nq) (some g)) := Lib.hid (only_drawn HG1.out nq)
          have hin2 : InBytes (w1.drewN nq) a n cap bs := HIN1.out.grown (only_drawn (only_refl _ none) nq) (fun _ _ => by simp)
          have HIN2 := Lib.hid hin2
          clear hin2
          generalize w1.drewN nq = w2 at *
          have d0 := HD2.out.cell0
          have d1 := HD2.out.cell1
          have g1 := HD2.out.frozen 1
          have m1 : g < w2.heap.size := HD2.out.lt
          have m2 : ¬ g = w2.heap.size := by omega
          clear c0 c1 c2 f1 f2
          go_region_law (first
            | (refine step_append_in rfl (.tmp 41) (.tmp 57) 23 rfl w2.heap.size 5 i0 _ 1 Try.underlying23 hi0 hz0 hz1 hz2 rfl (.slice (some ⟨w2.heap.size, 0, none⟩) 0 0) 0 [] rfl ?_ (if cap = at' then a else a.map (·.add at')) v (cap - at') ((bs.drop at').take v) rfl ?_ ?_ ?_ ?_ ?_
               · exact own_new w2 5 .u8 [] w2.heap.size (Nat.le_refl _) (by simp [maxLen])
               · exact ((HIN2.out.behind at' hat).upto v (by omega)).below ((Below.refl _ _).alloc (Nat.le_refl _) _).drew
               · simp only [maxLen]; omega
               · omega
               · simp
               intro v3 w3 hown3 hg3 hiff
               rw [List.nil_append, Nat.zero_add] at hown3
               obtain ⟨g3, c3, rfl⟩ := own_form hown3 (fun e => by have := (hiff.1 e).1; cases this)
               have HO3 := Lib.hid hown3
               have hgg : (w2.alloc (.cells #[] 5)).grownBy w3 (some w2.heap.size) := ⟨hg3.os, hg3.tape, hg3.output, hg3.size, hg3.block⟩
               have HD3 : Hid (RD w3 g a n cap at' false) := Lib.hid ((HD2.out.alloc _).grown hgg (by simp; omega))
               have hb3 : Below w2.heap.size w2 w3 := below_only ((Below.refl _ _).alloc (Nat.le_refl _) _) hgg (by simp) (Nat.le_refl _)
               have HB3 := Lib.hid hb3
               have e1 := HD3.out.cell1
               have y1 := HD3.out.frozen 1
               clear hown3 hg3 hiff hgg hb3
               generalize (if cap = at' then a else a.map (·.add at')) = sl))
          all_goals
            go_wp2_with fail
          all_goals
            go_ret
            rw [HE.out, if_neg (by omega)]
            have hl : (r.take v).length = v := by rw [List.length_take]; omega
            have hg3 := (HO3.out.lt g3 rfl).1
            refine ⟨some ⟨g3, 0, none⟩, c3, by rw [hl]; rfl, ?_, ⟨at' + v, false, ?_, by omega, (fun h => by cases h), fun r' h => ⟨rfl, ?_⟩⟩, ?_⟩
            · rw [hl, hr]
              exact InBytes.of_own (HO3.out.kept (only_set (only_refl w3 (some g)) 1 _) (.inr (by simp [Value.ownBlock]; omega))) (fun z hz => HIN2.out.bytes z (List.mem_of_mem_drop (List.mem_of_mem_take hz)))
            · have h := HD3.out.set1 (at' + v)
              rw [show ((at' + v : Nat) : Int) = (at' : Int) + (v : Int) by omega] at h
              exact h
            · injection h with h
              rw [← h, hr, List.drop_drop]
            · exact only_set (only_trans HG2.out (only_below HB3.out (some g))) 1 _
end Go.Proofs.Ytnjjihikjcfliaa
