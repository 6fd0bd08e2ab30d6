/- The contracts of the program's reader: NewReader, Bytes. -/
import Derived.Test.YtnjjihikjcfliaaPrRn
namespace Go.Proofs.Ytnjjihikjcfliaa
open Go.RowKit
set_option linter.unusedVariables false

set_option maxRecDepth 100000 in
set_option maxHeartbeats 2000000 in
theorem newReader_any (a : Option Addr) (n cap : Nat) (bs : List Int) (w : World) (hin : InBytes w a n cap bs) (hn : n ≤ 140737488355328) :
    Calls Try.prog 13 #[.slice a n cap] w (NewPost w bs) := by
  have hl := hin.len
  have HC := Lib.hid (clone_any a n cap bs w hin hn)
  clear hin
  go_enter Try.func13, Try.ntmps13
  go_wp2_with (first
    | (go_at_call 25
       (with_reducible refine HC.out.mono ?_)
       rintro _ w1 ⟨a2, c2, rfl, hin2, hf2, hb2⟩
       have HI := Lib.hid (And.intro hin2 (And.intro hf2 hb2))
       clear hin2 hf2 hb2))
  go_ret
  obtain ⟨hin2, hf2, hb2⟩ := HI.out
  rw [hl] at hin2
  refine ⟨w1.heap.size, a2.map (·.block), rfl, hb2.size, ?_, ⟨a2, n, c2, false, heap_alloc_new w1 _, ?_, ?_, (fun h => by cases h), fun r h => ⟨rfl, ?_, hn⟩⟩, hb2.alloc hb2.size _⟩
  · intro b hb
    cases a2 with
    | none => cases hb
    | some ad => injection hb with hb; rw [← hb]; exact ⟨(hf2 ad rfl).1, by have := (hf2 ad rfl).2; simp; omega⟩
  · rintro ad rfl
    rfl
  · intro h
    cases a2 with
    | none => cases h
    | some ad =>
      injection h with h
      have h9 := (hf2 ad rfl).2
      rw [show ad.block = w1.heap.size from h] at h9
      omega
  · injection h with h
    rw [← h]
    exact hin2.below ((Below.refl _ _).alloc (Nat.le_refl _) _)

theorem PR.moveO {w : World} {g n cap : Nat} {a : Option Addr} {gb : Option Nat} {l : List Int} (hd : PD w g a n cap false) (hgb : ∀ ad, a = some ad → gb = some ad.block) (hne : gb ≠ some g) (hin : InBytes w a n cap l) (j : Nat) (hj : j ≤ n) (hmx : n ≤ 140737488355328) :
    PR (w.setCell ⟨g, 0, none⟩ (.slice (if cap = j then a else a.map (·.add j)) (n - j) (cap - j))) g gb (some (l.drop j)) := by
  have hb := hin.behind j hj
  have hk : ∀ ad, (if cap = j then a else a.map (·.add j)) = some ad → gb = some ad.block := by
    intro ad h
    split at h
    · exact hgb ad h
    · cases a with
      | none => cases h
      | some x =>
        injection h with h
        rw [hgb x rfl, ← h]
        unfold Addr.add
        split <;> rfl
  refine ⟨_, _, _, false, hd.set0 _ _ _, hk, hne, (fun h => by cases h), fun r h => ⟨rfl, ?_, by omega⟩⟩
  injection h with h
  rw [← h]
  refine hb.grown (only_set (only_refl w (some g)) 0 _) (fun ad h => ?_)
  rw [← hk ad h]
  exact hne
set_option maxRecDepth 100000 in
set_option maxHeartbeats 4000000 in
theorem rdBytes_any (g : Nat) (gb : Option Nat) (s : Option (List Int)) (most : Int) (w : World) (hr : PR w g gb s) (hm1 : -9223372036854775808 ≤ most) (hm2 : most ≤ 9223372036854775807) :
    Calls Try.prog 19 #[.pointer (some ⟨g, 0, none⟩), .int .i64 most] w (PRBytesPost w g gb (rdBytes most s).1 (rdBytes most s).2) := by
  have HR := Lib.hid hr
  have hb8 : ∀ r, s = some r → Bytes8 r := by
    obtain ⟨a, n, cap, bad, hd, hgb, hne, hnone, hsome⟩ := hr
    exact fun r h => (hsome r h).2.1.bytes
  have HB8 := Lib.hid hb8
  clear hr hb8
  go_enter Try.func19, Try.ntmps19
  go_wp2_with fail
  refine (rdNumber_any g gb s _ HR.out).mono ?_
  rintro _ w1 ⟨rfl, ⟨a, n, cap, bad, hd, hgb, hne, hnone, hsome⟩, hg1⟩
  have c0 := hd.cell0
  have c1 := hd.cell1
  have f0 := hd.frozen 0
  have HD := Lib.hid hd
  have HG1 := Lib.hid hg1
  have HF := Lib.hid (fun W h => fail_any g a n cap bad W h)
  clear hd hg1
  cases hs : (rdNum s).2 with
  | none =>
    have e1 : rdBytes most s = ([], none) := by simp only [rdBytes, hs]
    obtain ⟨rfl, rfl, rfl, rfl⟩ := hnone hs
    clear hnone hsome
    generalize (rdNum s).1 = v at *
    have HE := Lib.hid e1
    clear hs e1
    go_wp2_with (first
      | (go_at_call 26
         (with_reducible refine (HF.out _ HD.out).mono ?_)
         rintro _ w2 ⟨rfl, hd2, hg2⟩
         have HD2 := Lib.hid hd2
         have HG2 := Lib.hid hg2
         clear hd2 hg2))
    go_ret
    rw [HE.out]
    exact ⟨none, 0, rfl, none_in _, ⟨none, 0, 0, true, HD2.out, (fun ad h => by cases h), hne, fun _ => ⟨rfl, rfl, rfl, rfl⟩, (fun r h => by cases h)⟩, only_trans HG1.out HG2.out, (fun ad h => by cases h)⟩
  | some r =>
    have hv := rdNum_lt hs HB8.out
    obtain ⟨rfl, hin, hmx⟩ := hsome r hs
    have hl := hin.len
    have hle := hin.le
    have HIN := Lib.hid hin
    have e1 : rdBytes most s = if most < 0 ∨ most < ((rdNum s).1 : Int) ∨ r.length < (rdNum s).1 then ([], none) else (r.take (rdNum s).1, some (r.drop (rdNum s).1)) := by simp only [rdBytes, hs]
    generalize (rdNum s).1 = v at *
    have HE := Lib.hid e1
    clear hnone hsome hs e1 hin
    by_cases h1 : most < 0
    · go_wp2_with (first
        | (go_at_call 26
           (with_reducible refine (HF.out _ HD.out).mono ?_)
           rintro _ w2 ⟨rfl, hd2, hg2⟩
           have HD2 := Lib.hid hd2
           have HG2 := Lib.hid hg2
           clear hd2 hg2))
      go_ret
      rw [HE.out, if_pos (.inl h1)]
      exact ⟨none, 0, rfl, none_in _, ⟨none, 0, 0, true, HD2.out, (fun ad h => by cases h), hne, fun _ => ⟨rfl, rfl, rfl, rfl⟩, (fun r h => by cases h)⟩, only_trans HG1.out HG2.out, (fun ad h => by cases h)⟩
    · have h1' : decide (most < 0) = false := by simpa using h1
      have u2 : IntKind.u64.wrap most = most := IntWalk.u64_in _ (by omega)
      by_cases h2 : most < (v : Int)
      · go_wp2_with (first
          | (go_at_call 26
             (with_reducible refine (HF.out _ HD.out).mono ?_)
             rintro _ w2 ⟨rfl, hd2, hg2⟩
             have HD2 := Lib.hid hd2
             have HG2 := Lib.hid hg2
             clear hd2 hg2))
        go_ret
        rw [HE.out, if_pos (.inr (.inl h2))]
        exact ⟨none, 0, rfl, none_in _, ⟨none, 0, 0, true, HD2.out, (fun ad h => by cases h), hne, fun _ => ⟨rfl, rfl, rfl, rfl⟩, (fun r h => by cases h)⟩, only_trans HG1.out HG2.out, (fun ad h => by cases h)⟩
      · have h2' : decide (most < (v : Int)) = false := by simpa using h2
        have u1 : IntKind.u64.wrap (n : Int) = (n : Int) := IntWalk.u64_in _ (by omega)
        by_cases h3 : n < v
        · have h3' : (n : Int) < (v : Int) := by omega
          go_wp2_with (first
            | (go_at_call 26
               (with_reducible refine (HF.out _ HD.out).mono ?_)
               rintro _ w2 ⟨rfl, hd2, hg2⟩
               have HD2 := Lib.hid hd2
               have HG2 := Lib.hid hg2
               clear hd2 hg2))
          go_ret
          rw [HE.out, if_pos (.inr (.inr (by omega)))]
          exact ⟨none, 0, rfl, none_in _, ⟨none, 0, 0, true, HD2.out, (fun ad h => by cases h), hne, fun _ => ⟨rfl, rfl, rfl, rfl⟩, (fun r h => by cases h)⟩, only_trans HG1.out HG2.out, (fun ad h => by cases h)⟩
        · have h3' : decide ((n : Int) < (v : Int)) = false := by simp; omega
          have hvn : (v : Int) ≤ (n : Int) := by omega
          have hvc : (v : Int) ≤ (cap : Int) := by omega
          have HC := Lib.hid (clone_any a v cap (r.take v) w1 (HIN.out.upto v (by omega)) (by omega))
          have hm : g < w1.heap.size := HD.out.lt
          have htl : (r.take v).length = v := by rw [List.length_take]; omega
          go_wp2_with (first
            | (go_at_call 25
               (with_reducible refine HC.out.mono ?_)
               rintro _ w2 ⟨a2, c2, rfl, hin2, hf2, hb2⟩
               have d0 := (HD.out.grown (only_below hb2 none) (by simp)).cell0
               have y0 := (HD.out.grown (only_below hb2 none) (by simp)).frozen 0
               have HI := Lib.hid (And.intro hin2 (And.intro hf2 hb2))
               clear hin2 hf2 hb2))
          all_goals
            go_ret
            obtain ⟨hin2, hf2, hb2⟩ := HI.out
            have hpr := PR.moveO (HD.out.grown (only_below hb2 none) (by simp)) hgb hne (HIN.out.below hb2) v (by omega) hmx
            have hi3 : InBytes (w2.setCell ⟨g, 0, none⟩ (.slice (if cap = v then a else a.map (·.add v)) (n - v) (cap - v))) a2 (r.take v).length c2 (r.take v) :=
              hin2.grown (only_set (only_refl w2 (some g)) 0 _) (fun ad e he => by have := (hf2 ad e).1; injection he with he; omega)
            rw [HE.out, if_neg (by omega)]
          · rw [if_pos h, h, Nat.sub_self] at hpr hi3
            exact ⟨a2, c2, by rw [htl]; rfl, hi3, hpr, only_set (only_trans HG1.out (only_below hb2 (some g))) 0 _, fun ad e => Nat.le_trans HG1.out.size (hf2 ad e).1⟩
          · rw [if_neg h] at hpr hi3
            exact ⟨a2, c2, by rw [htl]; rfl, hi3, hpr, only_set (only_trans HG1.out (only_below hb2 (some g))) 0 _, fun ad e => Nat.le_trans HG1.out.size (hf2 ad e).1⟩
end Go.Proofs.Ytnjjihikjcfliaa
