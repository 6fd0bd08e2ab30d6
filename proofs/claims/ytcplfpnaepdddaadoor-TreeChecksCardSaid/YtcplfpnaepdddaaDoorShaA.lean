/- Contracts of the program's and of the document's small functions on 32 bit words. -/
import Derived.Test.YtcplfpnaepdddaaDoorProg
import Derived.Test.YtcplfpnaepdddaaDoorShaMath
import Derived.WalkKit
import Derived.WalkLawsBesides
import Derived.WalkSpells
import Derived.Outline
import Derived.Lib.Hide
import Derived.Deep.QuietTactic
import Derived.BigQuiet
namespace Go.Proofs.YtcplfpnaepdddaaDoor
open Go.RowKit
set_option linter.unusedVariables false

theorem rot_any (x k : Int) (w : World) (hx : 0 ≤ x) (hx2 : x ≤ 4294967295) (hk : 1 ≤ k) (hk2 : k ≤ 31) :
    Calls Tryd.prog 79 #[.int .u32 x, .int .i64 (-k)] w fun e w' => e = .returned (.int .u32 (rotr x k)) ∧ w = w' := by
  have hm := mask_neg k hk hk2
  go_enter Tryd.func79, Tryd.ntmps79
  go_wp2
  go_ret
  exact ⟨ret_int (rotr_other x k), rfl⟩

theorem turn_any (x k : Int) (w : World) (hx : 0 ≤ x) (hx2 : x ≤ 4294967295) (hk : 1 ≤ k) (hk2 : k ≤ 31) :
    Calls Tryd.prog 71 #[.int .u32 x, .int .i64 k] w fun e w' => e = .returned (.int .u32 (rotr x k)) ∧ ∃ n, w' = w.drewN n := by
  go_enter Tryd.func71, Tryd.ntmps71
  go_wp2
  go_quiet (fail)
  go_wp2
  go_ret
  exact ⟨rfl, _, rfl⟩

theorem rots_any (x i j k : Int) (w : World) (hx : 0 ≤ x) (hx2 : x ≤ 4294967295) (hi : 1 ≤ i) (hi2 : i ≤ 31) (hj : 1 ≤ j) (hj2 : j ≤ 31) (hk : 1 ≤ k) (hk2 : k ≤ 31) :
    Calls Tryd.prog 80 #[.int .u32 x, .int .i64 i, .int .i64 j, .int .i64 k] w fun e w' => e = .returned (.int .u32 (rot3 x i j k)) ∧ w = w' := by
  go_enter Tryd.func80, Tryd.ntmps80
  go_wp2_with (go_at_call 79; (with_reducible refine (rot_any _ _ _ hx hx2 (by omega) (by omega)).mono ?_); rintro e w' ⟨rfl, rfl⟩)
  go_ret
  exact ⟨rfl, rfl⟩

theorem low_any (e f g z k v : Int) (w : World) (he : 0 ≤ e) (he2 : e ≤ 4294967295) (hh : 0 ≤ z) (hh2 : z ≤ 4294967295) (hk : 0 ≤ k) (hk2 : k ≤ 4294967295) (hv : 0 ≤ v) (hv2 : v ≤ 4294967295) :
    Calls Tryd.prog 77 #[.int .u32 e, .int .u32 f, .int .u32 g, .int .u32 z, .int .u32 k, .int .u32 v] w fun e' w' => e' = .returned (.int .u32 (lowS e f g z k v)) ∧ w = w' := by
  have hr := rot3_bd e 6 11 25
  have hq := bits_bd .xor (bits .and .u32 e f) (bits .and .u32 (bits .xor .u32 IntKind.u32.max e) g)
  go_enter Tryd.func77, Tryd.ntmps77
  go_wp2_with (go_at_call 80; (with_reducible refine (rots_any _ _ _ _ _ he he2 (by omega) (by omega) (by omega) (by omega) (by omega) (by omega)).mono ?_); rintro e' w' ⟨rfl, rfl⟩)
  go_ret
  exact ⟨rfl, rfl⟩

theorem up_any (a b c : Int) (w : World) (he : 0 ≤ a) (he2 : a ≤ 4294967295) :
    Calls Tryd.prog 78 #[.int .u32 a, .int .u32 b, .int .u32 c] w fun e' w' => e' = .returned (.int .u32 (upS a b c)) ∧ w = w' := by
  have hr := rot3_bd a 2 13 22
  have hq := bits_bd .xor (bits .xor .u32 (bits .and .u32 a b) (bits .and .u32 a c)) (bits .and .u32 b c)
  go_enter Tryd.func78, Tryd.ntmps78
  go_wp2_with (go_at_call 80; (with_reducible refine (rots_any _ _ _ _ _ he he2 (by omega) (by omega) (by omega) (by omega) (by omega) (by omega)).mono ?_); rintro e' w' ⟨rfl, rfl⟩)
  go_ret
  exact ⟨rfl, rfl⟩
end Go.Proofs.YtcplfpnaepdddaaDoor
