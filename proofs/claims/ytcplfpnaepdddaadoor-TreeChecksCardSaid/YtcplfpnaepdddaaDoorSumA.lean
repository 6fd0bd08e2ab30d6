/- Contracts of withTail and stateBytes. -/
import Derived.Test.YtcplfpnaepdddaaDoorStepD
import Derived.Test.YtcplfpnaepdddaaDoorTailA
import Derived.OwnWalk
import Derived.Deep.AppendLies
import Derived.Test.YtcplfpnaepdddaaDoorLib
namespace Go.Proofs.YtcplfpnaepdddaaDoor
open Go.RowKit
set_option linter.unusedVariables false

def WithTailPost (w : World) (r : List Int) (n : Nat) (e : Ending) (w' : World) : Prop :=
  ∃ g cap, e = .returned (.slice (some ⟨g, 0, none⟩) (r.length + (nils n + 9)) cap) ∧ w'.ownsRow w.heap.size 5 1 (.slice (some ⟨g, 0, none⟩) (r.length + (nils n + 9)) cap) (r.length + (nils n + 9)) ((r ++ tailL n).map (Value.int .u8)) ∧ Below w.heap.size w w'

set_option maxRecDepth 100000 in
set_option maxHeartbeats 1000000 in
theorem withTail_any (a : Option Addr) (k cap n : Nat) (r : List Int) (w : World) (hin : InBytes w a k cap r) (hk : k < 64) (hn : (n : Int) ≤ 1125899906842624) :
    Calls Tryd.prog 60 #[.slice a k cap, .int .i64 n] w (WithTailPost w r n) := by
  obtain ⟨i0, hi0, hz0, hz1, hz2⟩ := info_parts infoU8
  have hnl := nils_lt n
  have hlen := tailL_length n
  have hrl := hin.len
  have HIN := Lib.hid hin
  have HLEN := Lib.hid hlen
  have HRL := Lib.hid hrl
  clear hin hlen hrl
  go_enter Tryd.func60, Tryd.ntmps60
  go_wp2_with (first
    | (at_make
       refine wpList_make_own _ rfl (.const (.int .i64 0)) (.const (.int .i64 128)) 22 rfl w.heap.size 5 i0 _ 1 Tryd.underlying22 hi0 hz0 hz1 .i64 .i64 _ 128 rfl rfl rfl (by rw [hz2]; omega) (by simp only [maxLen]; omega) (Nat.le_refl _) ?_
       intro w1 hown1 hg1
       have HO1 := Lib.hid hown1
       have HB1 : Hid (Below w.heap.size w w1) := Lib.hid ((Below.refl _ _).grown hg1 (Nat.le_refl _) (by simp))
       clear hown1 hg1)
    | (at_builtin
       refine wpList_append_bytes _ rfl (.tmp 7) (.tmp 8) 22 rfl w.heap.size 5 i0 _ 1 Tryd.underlying22 hi0 hz0 hz1 hz2 rfl (.slice (some ⟨w.heap.size, 0, none⟩) 0 128) 0 [] rfl HO1.out a k cap r rfl (HIN.out.below HB1.out) (by simp only [maxLen]; omega) (by omega) HB1.out.size ?_
       intro v2 w2 hown2 hg2
       have HO2 := Lib.hid hown2
       have HB2 : Hid (Below w.heap.size w w2) := Lib.hid (HB1.out.grown hg2 HB1.out.size (fun j hj => (HO1.out.lt j hj).1))
       clear hown2 hg2)
    | (go_at_call 68
       (with_reducible refine (tail_any n _ hn).mono ?_)
       rintro e w3 ⟨rfl, hr3, hb3, hs3⟩
       have HO3 : Hid (w3.ownsRow w.heap.size 5 1 v2 (0 + k) ([] ++ r.map (Value.int .u8))) := Lib.hid (HO2.out.kept (only_below hb3 none) (by cases v2.ownBlock <;> simp))
       have HB3 : Hid (Below w.heap.size w w3) := Lib.hid (HB2.out.trans (hb3.mono HB2.out.size))
       have HR3 := Lib.hid hr3
       clear hr3 hb3 hs3)
    | (at_builtin
       refine wpList_append_own _ rfl (.tmp 10) (.tmp 12) 22 rfl w.heap.size 5 i0 _ 1 1 Tryd.underlying22 hi0 hz0 hz1 hz2 rfl (by omega) v2 (0 + k) ([] ++ r.map (Value.int .u8)) rfl HO3.out ⟨w2.heap.size, 0, none⟩ (nils n + 9) (nils n + 9) ((tailL n).map (Value.int .u8)) rfl (by simp [HLEN.out]) (by exact HR3.out.seg.news) (by simp [Value.oneCell']) (by simp only [maxLen]; omega) (by omega) HB3.out.size ?_
       intro v4 w4 hown4 hg4 hat4
       obtain ⟨g4, cap4, hv4, hgg4, hlt4⟩ := hown4.form (by omega)
       rw [hv4]
       rw [hv4] at hown4
       have HO4 := Lib.hid hown4
       have HB4 : Hid (Below w.heap.size w w4) := Lib.hid (HB3.out.grown hg4 HB3.out.size (fun j hj => (HO3.out.lt j hj).1))
       clear hown4 hg4 hat4 hv4))
  go_ret
  refine ⟨g4, cap4, ?_, ?_, HB4.out⟩
  · rw [HRL.out]; simp
  · have h := HO4.out
    rw [List.nil_append, Nat.zero_add, ← List.map_append, ← HRL.out] at h
    exact h
end Go.Proofs.YtcplfpnaepdddaaDoor
