/- Contracts of word and spread. -/
import Derived.Test.YtcplfpnaepdddaaDoorShaA
import Derived.Test.YtcplfpnaepdddaaDoorWordMath
import Derived.Test.YtcplfpnaepdddaaDoorLib
namespace Go.Proofs.YtcplfpnaepdddaaDoor
open Go.RowKit
set_option linter.unusedVariables false

theorem word_any (g off n cap : Nat) (a b c d : Int) (w : World) (hn : 4 ≤ n)
    (h0 : w.cell? ⟨g, off, none⟩ = some (.int .u8 a)) (h1 : w.cell? ⟨g, off + 1, none⟩ = some (.int .u8 b)) (h2 : w.cell? ⟨g, off + 2, none⟩ = some (.int .u8 c)) (h3 : w.cell? ⟨g, off + 3, none⟩ = some (.int .u8 d))
    (ha : 0 ≤ a) (ha2 : a ≤ 255) (hb : 0 ≤ b) (hb2 : b ≤ 255) (hc : 0 ≤ c) (hc2 : c ≤ 255) (hd : 0 ≤ d) (hd2 : d ≤ 255) :
    Calls Tryd.prog 75 #[.slice (some ⟨g, off, none⟩) n cap] w fun e w' => e = .returned (.int .u32 (wordOf a b c d)) ∧ ∃ m, w' = w.drewN m := by
  have i0 : (0 : Int) < (n : Int) := by omega
  have i1 : (1 : Int) < (n : Int) := by omega
  have i2 : (2 : Int) < (n : Int) := by omega
  have i3 : (3 : Int) < (n : Int) := by omega
  go_enter Tryd.func75, Tryd.ntmps75
  go_wp2
  go_quiet (fail)
  go_wp2
  go_ret
  exact ⟨ret_int (or_bytes a b c d ha ha2 hb hb2 hc hc2 hd hd2), _, rfl⟩

theorem spread_any (x i j s : Int) (w : World) (hx : 0 ≤ x) (hx2 : x ≤ 4294967295) (hi : 1 ≤ i) (hi2 : i ≤ 31) (hj : 1 ≤ j) (hj2 : j ≤ 31) (hs : 0 ≤ s) (hs2 : s ≤ 31) :
    Calls Tryd.prog 76 #[.int .u32 x, .int .i64 i, .int .i64 j, .int .i64 s] w fun e w' => e = .returned (.int .u32 (sp3 x i j s)) ∧ ∃ m, w' = w.drewN m := by
  have h1 := fun W => rot_any x i W hx hx2 hi hi2
  have h2 := fun W => rot_any x j W hx hx2 hj hj2
  have H1 := Lib.hid h1
  have H2 := Lib.hid h2
  clear h1 h2
  go_enter Tryd.func76, Tryd.ntmps76
  go_wp2
  go_quiet (first
    | (go_at_call 79; exact (rot_any _ _ _ hx hx2 (by omega) (by omega)).mono fun _ _ ⟨a, b⟩ => ⟨a, _, b.symm⟩))
  go_wp2
  go_ret
  exact ⟨rfl, _, rfl⟩
end Go.Proofs.YtcplfpnaepdddaaDoor
