/- The contract of Words. -/
import Derived.Test.YtcaggiekooncnaaDoorWordB
namespace Go.Proofs.YtcaggiekooncnaaDoor
open Go.RowKit
set_option linter.unusedVariables false

def WordsPost (w : World) (bs : List Int) (e : Ending) (w' : World) : Prop :=
  e = .returned (.tuple #[.slice (some ⟨w.heap.size + 2, 0, none⟩) 64 64, .nilIface]) ∧ Row .u32 w' 53 (w.heap.size + 2) (sched bs) ∧ Below w.heap.size w w' ∧ w'.heap.size = w.heap.size + 3

set_option maxRecDepth 100000 in
set_option maxHeartbeats 2000000 in
theorem Words_yes (g off cap : Nat) (bs : List Int) (w : World) (hl : bs.length = 64) (hb8 : Bytes8 bs) (hseg : Seg .u8 w g off bs) (hcap : 64 ≤ cap) (hg : g < w.heap.size) :
    Calls Tryd.prog 13 #[.slice (some ⟨g, off, none⟩) 64 cap] w (WordsPost w bs) := by
  have hw := sched_any g off cap bs w hl hb8 hseg hcap hg
  have HW := Lib.hid hw
  have hi64 : (Tryd.prog.info? 53).map (·.size) = some (sched bs).length := by rw [sched_length]; exact size64
  have HI64 := Lib.hid hi64
  clear hw hl hb8 hseg hi64
  go_enter Tryd.func13, Tryd.ntmps13
  go_wp2_with fail
  refine HW.out.mono ?_
  rintro e w1 ⟨rfl, hb1, hs1⟩
  have HB1 := Lib.hid hb1
  have HS1 := Lib.hid hs1
  clear hb1 hs1
  go_wp2_with (first
    | (refine wpList_store_ints rfl 53 (.tmp 4) (.tmp 10) rfl w1.heap.size .u32 (sched bs) rfl rfl 53 (List.replicate 64 0) (Row.new w1 53 (List.replicate 64 0)) HI64.out (by rw [sched_length]; simp) ?_
       intro w5 hr5 hg5 hs5
       have HR5 := Lib.hid hr5
       have HG5 := Lib.hid hg5
       have HS5 := Lib.hid hs5
       clear hr5 hg5 hs5))
  go_ret2
  unfold WordsPost
  rw [← HS1.out]
  refine ⟨rfl, HR5.out, ?_, ?_⟩
  · exact below_only (HB1.out.alloc HB1.out.size _) HG5.out (by have := HB1.out.size; simp; omega) HB1.out.size
  · rw [HS5.out]; simp [HS1.out]
theorem Words_no (a : Option Addr) (n cap : Nat) (w : World) (hn : n ≠ 64) :
    Calls Tryd.prog 13 #[.slice a n cap] w fun e w' => e = .returned (.tuple #[.slice none 0 0, .iface 34 (.int .i64 1)]) ∧ w = w' := by
  have h1 : (((n : Nat) : Int) != 64) = true := by rw [bne_iff_ne]; omega
  go_enter Tryd.func13, Tryd.ntmps13
  go_wp2
  go_ret2
  exact ⟨rfl, rfl⟩

theorem extW_append (l : List Int) (k : Nat) : extW l (k + 1) = extW l k ++ [nextW (extW l k)] := rfl
end Go.Proofs.YtcaggiekooncnaaDoor
