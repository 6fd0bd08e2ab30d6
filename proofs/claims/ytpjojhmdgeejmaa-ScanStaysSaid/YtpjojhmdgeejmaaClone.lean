/- The contract of bytes.Clone. -/
import Derived.Test.YtpjojhmdgeejmaaInfo
import Derived.Lib.SliceRun
namespace Go.Proofs.Ytpjojhmdgeejmaa
open Go.RowKit
set_option linter.unusedVariables false

/-- A slice of new memory, or nil, that holds the bytes bs. -/
def NewBytes (w : World) (bs : List Int) (e : Ending) (w' : World) : Prop :=
  ∃ a2 c2, e = .returned (.slice a2 bs.length c2) ∧ InBytes w' a2 bs.length c2 bs ∧ (∀ ad, a2 = some ad → w.heap.size ≤ ad.block ∧ ad.block < w'.heap.size) ∧ Below w.heap.size w w'
set_option maxRecDepth 100000 in
set_option maxHeartbeats 2000000 in
theorem clone_any (a : Option Addr) (n cap : Nat) (bs : List Int) (w : World) (hin : InBytes w a n cap bs) (hn : n ≤ 140737488355328) :
    Calls Try.prog 24 #[.slice a n cap] w (NewBytes w bs) := by
  obtain ⟨i0, hi0, hz0, hz1, hz2⟩ := info_parts infoU8
  have hq : ∀ (w : World) (a : Option Addr) (n c n' c' : Nat), (binOp .eql 22 (.slice a n c) (.slice none n' c')).run Try.prog w = .ok (.bool a.isNone) w := fun w a n c n' c' => Lib.run_eql_slice_nil w _ _ a n c n' c' Try.underlying22
  have HIN := Lib.hid hin
  clear hin
  go_enter Try.func24, Try.ntmps24
  cases a with
  | none =>
    have hc := HIN.out.nil rfl
    have hk : n = 0 := by have := HIN.out.le; omega
    subst hc
    subst hk
    have hr : bs = [] := List.eq_nil_of_length_eq_zero HIN.out.len
    subst hr
    have e : (none : Option Addr).isNone = true := rfl
    go_wp2_with fail
    go_ret
    exact ⟨none, 0, rfl, none_in _, (fun ad h => by cases h), Below.refl _ _⟩
  | some ad =>
    have e : (some ad : Option Addr).isNone = false := rfl
    have hl := HIN.out.len
    go_wp2_with (first
      | (at_builtin
         refine wpList_append_bytes' _ rfl (.tmp 5) (.tmp 6) 22 rfl w.heap.size 5 i0 _ 1 Try.underlying22 hi0 hz0 hz1 hz2 rfl w.heap.size 0 0 [] rfl (own_new w 5 .u8 [] w.heap.size (Nat.le_refl _) (by simp [maxLen])) (some ad) n cap bs rfl (HIN.out.below ((Below.refl _ _).alloc (Nat.le_refl _) _)) (by simp only [maxLen]; omega) (by omega) (by simp) ?_
         intro g1 c1 w1 hown1 hg1
         have HO1 := Lib.hid hown1
         have HB1 : Hid (Below w.heap.size w w1) := Lib.hid (below_only ((Below.refl _ _).alloc (Nat.le_refl _) _) hg1 (by simp) (Nat.le_refl _))
         clear hown1 hg1))
    go_ret
    have ho := HO1.out
    rw [List.nil_append, Nat.zero_add] at ho
    refine ⟨some ⟨g1, 0, none⟩, c1, by rw [hl]; rfl, by rw [hl]; exact InBytes.of_own ho HIN.out.bytes, fun ad h => ?_, HB1.out⟩
    injection h with h
    rw [← h]
    exact ho.lt g1 rfl
end Go.Proofs.Ytpjojhmdgeejmaa
