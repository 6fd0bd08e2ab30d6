/- Contracts of the program's and of the document's small functions on 32 bit words. The contract of a round: the document's. Arrays of eight words: what == and an index answer. Contracts of putBig, tail and Tail. Contracts of word and spread. The contract of schedule. The contract of rounds. The contract of step. Contracts of First and Step. The contract of steps. Contracts of withTail and stateBytes. The contract of stateBytes. The contract of Sum. Facts on a sum's bytes. -/
import Derived.Test.YtcplfpnaepdddaaDoorProg
import Derived.Test.YtcplfpnaepdddaaDoorShaM
import Derived.WalkKit
import Derived.WalkLawsBesides
import Derived.WalkSpells
import Derived.Outline
import Derived.Lib.Hide
import Derived.Deep.QuietTactic
import Derived.BigQuiet
import Derived.Below
import Derived.ChangeKeysEq
import Derived.Test.YtcplfpnaepdddaaDoorInfo
import Derived.LoopTactic
import Derived.Test.YtcplfpnaepdddaaDoorLib
import Derived.Deep.RegionHeld3
import Derived.IntWalk
import Derived.OwnWalk
import Derived.Deep.AppendLies
import Derived.Deep.DeepCutAuto
import Derived.Deep.RegionWith
/- Contracts of the program's and of the document's small functions on 32 bit words. -/
namespace Go.Proofs.YtcplfpnaepdddaaDoor
open Go.RowKit
set_option linter.unusedVariables false

theorem rot_any (x k : Int) (w : World) (hx : 0 ≤ x) (hx2 : x ≤ 4294967295) (hk : 1 ≤ k) (hk2 : k ≤ 31) :
    Calls Tryd.prog 79 #[.int .u32 x, .int .i64 (-k)] w fun e w' => e = .returned (.int .u32 (rotr x k)) ∧ w = w' := by
  have hm := mask_neg k hk hk2
  go_enter Tryd.func79, Tryd.ntmps79
  go_wp2
  go_ret
  exact ⟨ret_int (rotr_other x k), rfl⟩

theorem turn_any (x k : Int) (w : World) (hx : 0 ≤ x) (hx2 : x ≤ 4294967295) (hk : 1 ≤ k) (hk2 : k ≤ 31) :
    Calls Tryd.prog 71 #[.int .u32 x, .int .i64 k] w fun e w' => e = .returned (.int .u32 (rotr x k)) ∧ ∃ n, w' = w.drewN n := by
  go_enter Tryd.func71, Tryd.ntmps71
  go_wp2
  go_quiet (fail)
  go_wp2
  go_ret
  exact ⟨rfl, _, rfl⟩

theorem rots_any (x i j k : Int) (w : World) (hx : 0 ≤ x) (hx2 : x ≤ 4294967295) (hi : 1 ≤ i) (hi2 : i ≤ 31) (hj : 1 ≤ j) (hj2 : j ≤ 31) (hk : 1 ≤ k) (hk2 : k ≤ 31) :
    Calls Tryd.prog 80 #[.int .u32 x, .int .i64 i, .int .i64 j, .int .i64 k] w fun e w' => e = .returned (.int .u32 (rot3 x i j k)) ∧ w = w' := by
  go_enter Tryd.func80, Tryd.ntmps80
  go_wp2_with (go_at_call 79; (with_reducible refine (rot_any _ _ _ hx hx2 (by omega) (by omega)).mono ?_); rintro e w' ⟨rfl, rfl⟩)
  go_ret
  exact ⟨rfl, rfl⟩

theorem low_any (e f g z k v : Int) (w : World) (he : 0 ≤ e) (he2 : e ≤ 4294967295) (hh : 0 ≤ z) (hh2 : z ≤ 4294967295) (hk : 0 ≤ k) (hk2 : k ≤ 4294967295) (hv : 0 ≤ v) (hv2 : v ≤ 4294967295) :
    Calls Tryd.prog 77 #[.int .u32 e, .int .u32 f, .int .u32 g, .int .u32 z, .int .u32 k, .int .u32 v] w fun e' w' => e' = .returned (.int .u32 (lowS e f g z k v)) ∧ w = w' := by
  have hr := rot3_bd e 6 11 25
  have hq := bits_bd .xor (bits .and .u32 e f) (bits .and .u32 (bits .xor .u32 IntKind.u32.max e) g)
  go_enter Tryd.func77, Tryd.ntmps77
  go_wp2_with (go_at_call 80; (with_reducible refine (rots_any _ _ _ _ _ he he2 (by omega) (by omega) (by omega) (by omega) (by omega) (by omega)).mono ?_); rintro e' w' ⟨rfl, rfl⟩)
  go_ret
  exact ⟨rfl, rfl⟩

theorem up_any (a b c : Int) (w : World) (he : 0 ≤ a) (he2 : a ≤ 4294967295) :
    Calls Tryd.prog 78 #[.int .u32 a, .int .u32 b, .int .u32 c] w fun e' w' => e' = .returned (.int .u32 (upS a b c)) ∧ w = w' := by
  have hr := rot3_bd a 2 13 22
  have hq := bits_bd .xor (bits .xor .u32 (bits .and .u32 a b) (bits .and .u32 a c)) (bits .and .u32 b c)
  go_enter Tryd.func78, Tryd.ntmps78
  go_wp2_with (go_at_call 80; (with_reducible refine (rots_any _ _ _ _ _ he he2 (by omega) (by omega) (by omega) (by omega) (by omega) (by omega)).mono ?_); rintro e' w' ⟨rfl, rfl⟩)
  go_ret
  exact ⟨rfl, rfl⟩
end Go.Proofs.YtcplfpnaepdddaaDoor

/- The contract of a round: the document's. -/
namespace Go.Proofs.YtcplfpnaepdddaaDoor
open Go.RowKit
set_option linter.unusedVariables false

theorem quiet_add {P : Program} {f : FuncId} {args : Array Value} {w : World} {a n : Nat} {v : Value}
    (h : Calls P f args (w.drewN (a + n)) fun e w' => e = .returned v ∧ ∃ m, w' = (w.drewN (a + n)).drewN m) :
    Calls P f args (w.drewN (a + n)) fun e w'' => e = .returned v ∧ ∃ m, w'' = w.drewN (a + m) :=
  h.mono fun _ _ ⟨he, m, hm⟩ => ⟨he, n + m, by rw [hm, World.drewN_drewN, Nat.add_assoc]⟩

set_option maxHeartbeats 1000000 in
theorem refRound_any (a b c d e f g z k v : Int) (w : World)
    (ha : 0 ≤ a) (ha2 : a ≤ 4294967295) (hd : 0 ≤ d) (hd2 : d ≤ 4294967295) (he : 0 ≤ e) (he2 : e ≤ 4294967295)
    (hh : 0 ≤ z) (hh2 : z ≤ 4294967295) (hk : 0 ≤ k) (hk2 : k ≤ 4294967295) (hv : 0 ≤ v) (hv2 : v ≤ 4294967295) :
    Calls Tryd.prog 66 #[agg8 a b c d e f g z, .int .u32 k, .int .u32 v] w fun r w' => r = .returned (rndV a b c d e f g z k v) ∧ Below w.heap.size w w' := by
  unfold agg8
  go_enter Tryd.func66, Tryd.ntmps66
  go_wp2
  go_quiet ((go_at_call 71; exact Calls.quiet_of (turn_any _ _ _ he he2 (by omega) (by omega))))
  go_wp2
  go_quiet ((go_at_call 71; exact quiet_add (turn_any _ _ _ ha ha2 (by omega) (by omega))))
  go_wp2
  refine bodyPost_ret (v := rndV a b c d e f g z k v) (by simp [results, Tryd.results66, go_sem, rndV, agg8, lowS, upS, rot3]) rfl ⟨rfl, ?_⟩
  have h2 : Below w.heap.size w ((w.alloc (.cells #[.int .u32 a, .int .u32 b, .int .u32 c, .int .u32 d, .int .u32 e, .int .u32 f, .int .u32 g, .int .u32 z] 40)).alloc (.cells #[.int .u32 0, .int .u32 0, .int .u32 0, .int .u32 0, .int .u32 0, .int .u32 0, .int .u32 0, .int .u32 0] 40)) :=
    ((Below.refl _ _).alloc (Nat.le_refl _) _).alloc (by simp) _
  exact (((((((((below_drewN h2 _).setCell (by simp) _).setCell (by simp) _).setCell (by simp) _).setCell (by simp) _).setCell (by simp) _).setCell (by simp) _).setCell (by simp) _).setCell (by simp) _)
end Go.Proofs.YtcplfpnaepdddaaDoor

/- Arrays of eight words: what == and an index answer. -/
namespace Go.Proofs.YtcplfpnaepdddaaDoor
open Go.RowKit
set_option linter.unusedVariables false

theorem infoU32 : (Tryd.prog.info? 39).map (fun i => (i.zero, i.size, i.bytes)) = some (some (.int .u32 0), 1, 4) := by kernel_rfl
theorem cellsU32 : Tryd.prog.cellsOf 39 = 1 := by kernel_rfl
theorem run_equal8 (a b c d e f g h : Int) (n : Nat) (w : World) : (Op.equalIn (n + 2) 40 (agg8 a b c d e f g h) (agg8 a b c d e f g h)).run Tryd.prog w = .ok true w := by
  obtain ⟨i0, hi0, hz0, hz1, hz2⟩ := info_parts infoU32
  have he := fun (x y : Int) (w : World) => run_equalIn_int w n 39 .u32 .u32 x y Tryd.underlying39
  unfold agg8
  rw [run_equalIn_array w (n + 1) _ _ Tryd.underlying40 hi0, cellsU32]
  simp [Op.eqItems, List.range, List.range.loop, part, sizeOf, typeInfo, hi0, hz1, he]
theorem run_eql_agg8 (a b c d e f g h : Int) (w : World) : (binOp .eql 40 (agg8 a b c d e f g h) (agg8 a b c d e f g h)).run Tryd.prog w = .ok (.bool true) w := by
  have h1 := run_equal8 a b c d e f g h 9998 w
  unfold agg8 at h1 ⊢
  rw [run_eql_struct, h1]
  simp
theorem run_index8 (a b c d e f g h : Int) (w : World) : (Instr.index 40 (agg8 a b c d e f g h) (.int .i64 0)).run Tryd.prog w = .ok (.int .u32 a) w := by
  unfold agg8
  kernel_rfl
theorem bcell {W w1 : World} (hb : Below W.heap.size W w1) : (∀ b o, b < W.heap.size → w1.cell? ⟨b, o, none⟩ = W.cell? ⟨b, o, none⟩) ∧ (∀ b o, b < W.heap.size → w1.frozen? ⟨b, o, none⟩ = W.frozen? ⟨b, o, none⟩) :=
  ⟨fun b o h => hb.cell (p := ⟨b, o, none⟩) h, fun b o h => hb.frozen (p := ⟨b, o, none⟩) h⟩
end Go.Proofs.YtcplfpnaepdddaaDoor

/- Contracts of putBig, tail and Tail. -/
namespace Go.Proofs.YtcplfpnaepdddaaDoor
open Go.RowKit
set_option linter.unusedVariables false

def PutPost (w : World) (g off n : Nat) (zs : List Int) (x : Int) (e : Ending) (w' : World) : Prop :=
  e = .returned (.tuple #[]) ∧ Row .u8 w' 5 g (putB zs off n x n) ∧ w'.heap.size = w.heap.size ∧ w.grownBy w' (some g)

set_option maxHeartbeats 1000000 in
theorem putBig_any (g off n cap : Nat) (zs : List Int) (x : Int) (w : World) (hr : Row .u8 w 5 g zs) (hl : off + n ≤ zs.length) (hn : n ≤ 8) (hx : 0 ≤ x) (hx2 : x ≤ 18446744073709551615) :
    Calls Tryd.prog 69 #[.slice (some ⟨g, off, none⟩) n cap, .int .u64 x] w (PutPost w g off n zs x) := by
  have HR := Lib.hid hr
  clear hr
  go_enter Tryd.func69, Tryd.ntmps69
  go_wp2
  go_loopw [7] (fun i wx => ∃ k : Nat, k ≤ n ∧ i = .int .i64 k ∧ Row .u8 wx 5 g (putB zs off n x k) ∧ wx.heap.size = w.heap.size ∧ w.grownBy wx (some g)) (fun i _ => n - (intOf i).toNat)
  case atStart => exact ⟨0, Nat.zero_le _, rfl, HR.out, rfl, only_refl _ _⟩
  case round =>
    obtain ⟨k, hk, rfl, hr, hs, hg⟩ := hrel
    have hlen := putB_length zs off n x k
    have hf := hr.frozen (off + k)
    have HR2 := Lib.hid hr
    have HS := Lib.hid hs
    have HL := Lib.hid hlen
    by_cases hlt : k < n
    · obtain ⟨z0, hc⟩ := hr.has (off + k) (by omega)
      have HG := Lib.hid hg
      clear hr hs hlen hg
      go_wp2
      go_roundw
      case rel => exact ⟨k + 1, by omega, by go_num, HR2.out.set _ _, by simpa [World.setCell] using HS.out, only_set HG.out _ _⟩
      case measure => simp [intOf]; omega
    · obtain rfl : k = n := by omega
      clear hr hs hlen hf
      go_wp2
      go_end0
      exact ⟨rfl, HR2.out, HS.out, hg⟩

def TailPost (w : World) (n : Nat) (e : Ending) (w' : World) : Prop :=
  e = .returned (.slice (some ⟨w.heap.size, 0, none⟩) (nils n + 9) (nils n + 9)) ∧ Row .u8 w' 5 w.heap.size (tailL n) ∧ Below w.heap.size w w' ∧ w'.heap.size = w.heap.size + 1


set_option maxHeartbeats 1000000 in
theorem tail_any (n : Nat) (w : World) (hn : (n : Int) ≤ 1125899906842624) :
    Calls Tryd.prog 68 #[.int .i64 n] w (TailPost w n) := by
  obtain ⟨i0, hi0, hz0, hz1, hz2⟩ := info_parts infoU8
  have hnl := nils_lt n
  have hnz : (128 - ((n : Int) % 64 + 1 + 8)) % 64 = (nils n : Int) := by unfold nils; omega
  go_enter Tryd.func68, Tryd.ntmps68
  go_wp2_with (at_make; refine wpList_make_ints w rfl (.tmp 15) (.tmp 15) 22 rfl 5 i0 .u8 Tryd.underlying22 hi0 hz0 hz1 .i64 .i64 _ _ (nils n + 9) rfl rfl (by push_cast; omega) (by push_cast; omega) (by rw [hz2]; omega) (by simp only [maxLen]; omega) ?_; intro w1 hr1 hb1 hs1; obtain ⟨z0, hc0⟩ := hr1.has 0 (by simp); have hf0 := hr1.frozen 0; have HR1 := Lib.hid hr1; have HS1 := Lib.hid hs1; clear hr1 hs1)
  rw [show nils n + 9 - (1 + nils n) = 8 by omega]
  refine (putBig_any w.heap.size (1 + nils n) 8 8 ((List.replicate (nils n + 9) (0 : Int)).set 0 128) (8 * n) _ (HR1.out.set 0 128) (by simp; omega) (by omega) (by omega) (by omega)).mono ?_
  rintro e w2 ⟨rfl, hr2, hs2, hg2⟩
  rw [set_first, putB_tail] at hr2
  have hb2 : Below w.heap.size w w2 := below_only (hb1.setCell (Nat.le_refl _) _) hg2 (by simp [World.setCell, HS1.out]) (Nat.le_refl _)
  have hs3 : w2.heap.size = w.heap.size + 1 := by rw [hs2]; simp [World.setCell, HS1.out]
  have H := Lib.hid (And.intro hr2 (And.intro hb2 hs3))
  clear hr2 hs2 hg2 hb2 hs3
  go_wp2
  go_ret
  exact ⟨rfl, H.out⟩
end Go.Proofs.YtcplfpnaepdddaaDoor

/- Contracts of word and spread. -/
namespace Go.Proofs.YtcplfpnaepdddaaDoor
open Go.RowKit
set_option linter.unusedVariables false

theorem word_any (g off n cap : Nat) (a b c d : Int) (w : World) (hn : 4 ≤ n)
    (h0 : w.cell? ⟨g, off, none⟩ = some (.int .u8 a)) (h1 : w.cell? ⟨g, off + 1, none⟩ = some (.int .u8 b)) (h2 : w.cell? ⟨g, off + 2, none⟩ = some (.int .u8 c)) (h3 : w.cell? ⟨g, off + 3, none⟩ = some (.int .u8 d))
    (ha : 0 ≤ a) (ha2 : a ≤ 255) (hb : 0 ≤ b) (hb2 : b ≤ 255) (hc : 0 ≤ c) (hc2 : c ≤ 255) (hd : 0 ≤ d) (hd2 : d ≤ 255) :
    Calls Tryd.prog 75 #[.slice (some ⟨g, off, none⟩) n cap] w fun e w' => e = .returned (.int .u32 (wordOf a b c d)) ∧ ∃ m, w' = w.drewN m := by
  have i0 : (0 : Int) < (n : Int) := by omega
  have i1 : (1 : Int) < (n : Int) := by omega
  have i2 : (2 : Int) < (n : Int) := by omega
  have i3 : (3 : Int) < (n : Int) := by omega
  go_enter Tryd.func75, Tryd.ntmps75
  go_wp2
  go_quiet (fail)
  go_wp2
  go_ret
  exact ⟨ret_int (or_bytes a b c d ha ha2 hb hb2 hc hc2 hd hd2), _, rfl⟩

theorem spread_any (x i j s : Int) (w : World) (hx : 0 ≤ x) (hx2 : x ≤ 4294967295) (hi : 1 ≤ i) (hi2 : i ≤ 31) (hj : 1 ≤ j) (hj2 : j ≤ 31) (hs : 0 ≤ s) (hs2 : s ≤ 31) :
    Calls Tryd.prog 76 #[.int .u32 x, .int .i64 i, .int .i64 j, .int .i64 s] w fun e w' => e = .returned (.int .u32 (sp3 x i j s)) ∧ ∃ m, w' = w.drewN m := by
  have h1 := fun W => rot_any x i W hx hx2 hi hi2
  have h2 := fun W => rot_any x j W hx hx2 hj hj2
  have H1 := Lib.hid h1
  have H2 := Lib.hid h2
  clear h1 h2
  go_enter Tryd.func76, Tryd.ntmps76
  go_wp2
  go_quiet (first
    | (go_at_call 79; exact (rot_any _ _ _ hx hx2 (by omega) (by omega)).mono fun _ _ ⟨a, b⟩ => ⟨a, _, b.symm⟩))
  go_wp2
  go_ret
  exact ⟨rfl, _, rfl⟩
end Go.Proofs.YtcplfpnaepdddaaDoor

/- The contract of schedule. -/
namespace Go.Proofs.YtcplfpnaepdddaaDoor
open Go.RowKit
set_option linter.unusedVariables false

def SchedPost (w : World) (bs : List Int) (e : Ending) (w' : World) : Prop :=
  e = .returned (.agg ((sched bs).map (Value.int .u32)).toArray) ∧ Below w.heap.size w w' ∧ w'.heap.size = w.heap.size + 2

theorem size64 : (Tryd.prog.info? 81).map (·.size) = some 64 := by kernel_rfl

set_option maxRecDepth 100000 in
set_option maxHeartbeats 2000000 in
theorem sched_any (g off cap : Nat) (bs : List Int) (w : World) (hl : bs.length = 64) (hb8 : Bytes8 bs) (hseg : Seg .u8 w g off bs) (hcap : 64 ≤ cap) (hg : g < w.heap.size) :
    Calls Tryd.prog 72 #[.slice (some ⟨g, off, none⟩) 64 cap] w (SchedPost w bs) := by
  have HL := Lib.hid hl
  have HB8 := Lib.hid hb8
  have HSEG := Lib.hid hseg
  clear hl hb8 hseg
  go_enter Tryd.func72, Tryd.ntmps72
  go_wp2_with fail
  go_loopw [6] (fun i wx => ∃ k : Nat, k ≤ 16 ∧ i = .int .i64 k ∧ Row .u32 wx 81 (w.heap.size + 1) (first16 bs k ++ List.replicate (64 - k) 0) ∧ Row .u32 wx 81 w.heap.size (List.replicate 64 0) ∧ Below w.heap.size w wx ∧ wx.heap.size = w.heap.size + 2) (fun i _ => 16 - (intOf i).toNat)
  case atStart =>
    refine ⟨0, by omega, rfl, ?_, ?_, ?_, by simp⟩
    · have h := heap_alloc2_new w (.cells ((List.replicate 64 (0 : Int)).map (Value.int .u32)).toArray 81) (.cells ((List.replicate 64 (0 : Int)).map (Value.int .u32)).toArray 81)
      exact h
    · have h := heap_alloc2_old w (.cells ((List.replicate 64 (0 : Int)).map (Value.int .u32)).toArray 81) (.cells ((List.replicate 64 (0 : Int)).map (Value.int .u32)).toArray 81)
      exact h
    · exact ((Below.refl _ _).alloc (Nat.le_refl _) _).alloc (by simp) _
  case round =>
    obtain ⟨k, hk, rfl, hr, hr0, hb, hs⟩ := hrel
    have HR := Lib.hid hr
    have HR0 := Lib.hid hr0
    have HB := Lib.hid hb
    have HS := Lib.hid hs
    clear hr hr0 hb hs
    by_cases hlt : k < 16
    · have hsg : Seg .u8 wr g off bs := HSEG.out.below HB.out hg
      have hl := HL.out
      have c0 := hsg.cellD (4 * k) (by omega)
      have c1 := hsg.cellD (4 * k + 1) (by omega)
      have c2 := hsg.cellD (4 * k + 2) (by omega)
      have c3 := hsg.cellD (4 * k + 3) (by omega)
      have hw := fun W (hW : wr = W) => word_any g (off + 4 * k) (64 - 4 * k) (cap - 4 * k) _ _ _ _ wr (by omega) c0 c1 c2 c3 (byte_at HB8.out _).1 (byte_at HB8.out _).2 (byte_at HB8.out _).1 (byte_at HB8.out _).2 (byte_at HB8.out _).1 (byte_at HB8.out _).2 (byte_at HB8.out _).1 (byte_at HB8.out _).2
      have HW := Lib.hid (hw wr rfl)
      have hlen : (first16 bs k ++ List.replicate (64 - k) (0 : Int)).length = 64 := by simp [first16_length]; omega
      have HLEN := Lib.hid hlen
      obtain ⟨z0, hc⟩ := HR.out.has k (by omega)
      have hf := HR.out.frozen k
      clear hsg hl c0 c1 c2 c3 hw hlen
      go_wp2_with fail
      refine HW.out.mono ?_
      rintro e w' ⟨rfl, m, rfl⟩
      go_wp2_with fail
      go_roundw
      case rel =>
        refine ⟨k + 1, by omega, by go_num, ?_, HR0.out.far (by simp) _, ?_, ?_⟩
        · have h := (HR.out.drewN m).set k (wordAt bs k)
          have e := set_at (first16 bs k) (63 - k) (wordAt bs k)
          rw [first16_length, show 63 - k + 1 = 64 - k by omega, ← first16_succ] at e
          rw [e, show 63 - k = 64 - (k + 1) by omega] at h
          exact h
        · exact (below_drewN HB.out m).setCell (by simp) _
        · simpa [World.setCell] using HS.out
      case measure => simp [intOf]; omega
    · obtain rfl : k = 16 := by omega
      rw [show ((16 : Nat) : Int) = 16 from rfl]
      go_wp2_with fail
      go_loopw [5] (fun i wx => ∃ n : Nat, 16 ≤ n ∧ n ≤ 64 ∧ i = .int .i64 n ∧ Row .u32 wx 81 (w.heap.size + 1) (extW (first16 bs 16) (n - 16) ++ List.replicate (64 - n) 0) ∧ Row .u32 wx 81 w.heap.size (List.replicate 64 0) ∧ Below w.heap.size w wx ∧ wx.heap.size = w.heap.size + 2) (fun i _ => 64 - (intOf i).toNat)
      case atStart => exact ⟨16, by omega, by omega, rfl, HR.out, HR0.out, HB.out, HS.out⟩
      case round =>
        obtain ⟨n, hn, hn2, rfl, hr, hr0, hb, hs⟩ := hrel
        clear HR HR0 HB HS
        have HR := Lib.hid hr
        have HR0 := Lib.hid hr0
        have HB := Lib.hid hb
        have HS := Lib.hid hs
        clear hr hr0 hb hs
        by_cases hlt : n < 64
        · have hlm : (extW (first16 bs 16) (n - 16)).length = n := by rw [extW_length, first16_length]; omega
          have hlen : (extW (first16 bs 16) (n - 16) ++ List.replicate (64 - n) (0 : Int)).length = 64 := by simp [hlm]; omega
          have hbd := extW_bd (first16_bd HB8.out 16) (n - 16)
          have cell : ∀ j, 2 ≤ j → j ≤ 16 → wr.cell? ⟨w.heap.size + 1, n - j, none⟩ = some (.int .u32 ((extW (first16 bs 16) (n - 16)).getD (n - j) 0)) := fun j h1 h2 => by
            rw [HR.out.cellD (n - j) (by omega), getD_app _ _ _ (by omega)]
          have c16 := cell 16 (by omega) (by omega)
          have c15 := cell 15 (by omega) (by omega)
          have c7 := cell 7 (by omega) (by omega)
          have c2 := cell 2 (by omega) (by omega)
          obtain ⟨z0, hc⟩ := HR.out.has n (by omega)
          have hf := HR.out.frozen n
          have b16 := word_at hbd (n - 16)
          have b15 := word_at hbd (n - 15)
          have b7 := word_at hbd (n - 7)
          have b2 := word_at hbd (n - 2)
          have hnext : nextW (extW (first16 bs 16) (n - 16)) = ((extW (first16 bs 16) (n - 16)).getD (n - 16) 0 + sp3 ((extW (first16 bs 16) (n - 16)).getD (n - 15) 0) 7 18 3 + (extW (first16 bs 16) (n - 16)).getD (n - 7) 0 + sp3 ((extW (first16 bs 16) (n - 16)).getD (n - 2) 0) 17 19 10) % 4294967296 := by
            unfold nextW; rw [hlm]
          generalize (extW (first16 bs 16) (n - 16)).getD (n - 16) 0 = x16 at *
          generalize (extW (first16 bs 16) (n - 16)).getD (n - 15) 0 = x15 at *
          generalize (extW (first16 bs 16) (n - 16)).getD (n - 7) 0 = x7 at *
          generalize (extW (first16 bs 16) (n - 16)).getD (n - 2) 0 = x2 at *
          have HN := Lib.hid hnext
          have hst : ∀ q, Row .u32 ((wr.drewN q).setCell ⟨w.heap.size + 1, n, none⟩ (.int .u32 (nextW (extW (first16 bs 16) (n - 16))))) 81 (w.heap.size + 1) (extW (first16 bs 16) (n + 1 - 16) ++ List.replicate (64 - (n + 1)) 0) := fun q => by
            have h := (HR.out.drewN q).set n (nextW (extW (first16 bs 16) (n - 16)))
            have e := set_at (extW (first16 bs 16) (n - 16)) (63 - n) (nextW (extW (first16 bs 16) (n - 16)))
            rw [hlm, show 63 - n + 1 = 64 - n by omega] at e
            rw [e, show 63 - n = 64 - (n + 1) by omega] at h
            rw [show n + 1 - 16 = (n - 16) + 1 by omega]
            exact h
          have HST := Lib.hid hst
          clear hst
          have HLM := Lib.hid hlm
          have s15 := sp3_bd x15 7 18 3
          have s2 := sp3_bd x2 17 19 10
          clear hlm hlen hbd cell hnext
          go_wp2_with fail
          have wr16 : IntKind.i64.wrap ((n : Int) - 16) = (n : Int) - 16 := IntWalk.i64_in _ (by omega)
          have nn16 : (0 : Int) ≤ (n : Int) - 16 := by omega
          have ni16 : (16 : Int) ≤ (n : Int) := by omega
          have ub16 : (n : Int) - 16 < 64 := by omega
          have tn16 : ((n : Int) - 16).toNat = n - 16 := by omega
          have wr15 : IntKind.i64.wrap ((n : Int) - 15) = (n : Int) - 15 := IntWalk.i64_in _ (by omega)
          have nn15 : (0 : Int) ≤ (n : Int) - 15 := by omega
          have ni15 : (15 : Int) ≤ (n : Int) := by omega
          have ub15 : (n : Int) - 15 < 64 := by omega
          have tn15 : ((n : Int) - 15).toNat = n - 15 := by omega
          have wr7 : IntKind.i64.wrap ((n : Int) - 7) = (n : Int) - 7 := IntWalk.i64_in _ (by omega)
          have nn7 : (0 : Int) ≤ (n : Int) - 7 := by omega
          have ni7 : (7 : Int) ≤ (n : Int) := by omega
          have ub7 : (n : Int) - 7 < 64 := by omega
          have tn7 : ((n : Int) - 7).toNat = n - 7 := by omega
          have wr2 : IntKind.i64.wrap ((n : Int) - 2) = (n : Int) - 2 := IntWalk.i64_in _ (by omega)
          have nn2 : (0 : Int) ≤ (n : Int) - 2 := by omega
          have ni2 : (2 : Int) ≤ (n : Int) := by omega
          have ub2 : (n : Int) - 2 < 64 := by omega
          have tn2 : ((n : Int) - 2).toNat = n - 2 := by omega
          have nn0 : (0 : Int) ≤ (n : Int) := by omega
          have ub0 : (n : Int) < 64 := by omega
          go_region_held3 (fun w' => w'.cell? ⟨w.heap.size + 1, n - 16, none⟩ = some (.int .u32 x16) ∧ w'.cell? ⟨w.heap.size + 1, n - 15, none⟩ = some (.int .u32 x15) ∧ w'.cell? ⟨w.heap.size + 1, n - 7, none⟩ = some (.int .u32 x7) ∧ w'.cell? ⟨w.heap.size + 1, n - 2, none⟩ = some (.int .u32 x2))
            (first
              | (go_keep; done)
              | (refine ⟨?_, ?_, ?_, ?_⟩ <;> (rw [World.cell?_setCell_other _ _ _ _ (by first | (simp; done) | (simp; omega))]; simp [*]; done)))
            (first
              | (go_at_call 76; (with_reducible refine (spread_any _ _ _ _ _ (by omega) (by omega) (by omega) (by omega) (by omega) (by omega) (by omega) (by omega)).mono ?_); rintro _ wx ⟨rfl, mx, rfl⟩))
          clear wr16 nn16 ni16 ub16 tn16 wr15 nn15 ni15 ub15 tn15 wr7 nn7 ni7 ub7 tn7 wr2 nn2 ni2 ub2 tn2 nn0 ub0 c16 c15 c7 c2 b16 b15 b7 b2 s15 s2
          go_wp2_with fail
          go_roundw
          case rel =>
            refine ⟨n + 1, by omega, by omega, by go_num, ?_, ?_, ?_, ?_⟩
            · rw [mod_sum, ← HN.out]
              exact HST.out _
            · exact (HR0.out.drewN _).far (by simp) _
            · exact (below_drewN HB.out _).setCell (by simp) _
            · simpa [World.setCell] using HS.out
          case measure => simp [intOf]; omega
        · obtain rfl : n = 64 := by omega
          have hr64 : Row .u32 wr 81 (w.heap.size + 1) (sched bs) := by
            have h := HR.out
            simp only [Nat.sub_self, List.replicate_zero, List.append_nil] at h
            exact h
          have hl64 := sched_length bs
          have HR64 := Lib.hid hr64
          have hi64 : (Tryd.prog.info? 81).map (·.size) = some (sched bs).length := by rw [hl64]; exact size64
          have HI64 := Lib.hid hi64
          have HL64 := Lib.hid hl64
          clear hr64 hi64 hl64
          go_wp2_with (first
            | (refine wpList_load_ints rfl 81 (.tmp 3) rfl (w.heap.size + 1) rfl 81 .u32 (sched bs) HR64.out 64 39 Tryd.underlying81 HI64.out ?_)
            | (refine wpList_store_ints rfl 81 (.tmp 2) (.tmp 44) rfl w.heap.size .u32 (sched bs) rfl rfl 81 (List.replicate 64 0) HR0.out HI64.out (by rw [HL64.out]; simp) ?_
               intro w5 hr5 hg5 hs5
               have HR5 := Lib.hid hr5
               have HG5 := Lib.hid hg5
               have HS5 := Lib.hid hs5
               clear hr5 hg5 hs5))
          refine bodyPost_ret (v := .agg ((sched bs).map (Value.int .u32)).toArray) (results_cell_row Tryd.results72 _ _ w.heap.size 81 _ _ _ rfl HR5.out Tryd.underlying81 rfl (by rw [ints_size]; exact HI64.out)) rfl ⟨rfl, ?_, ?_⟩
          · exact below_only HB.out HG5.out (by rw [HS.out]; omega) (Nat.le_refl _)
          · rw [HS5.out, HS.out]
end Go.Proofs.YtcplfpnaepdddaaDoor

/- The contract of rounds. -/
namespace Go.Proofs.YtcplfpnaepdddaaDoor
open Go.RowKit
set_option linter.unusedVariables false

/-- The table of constants lies where the program has it. -/
structure KLies (w : World) : Prop where
  seg : Seg .u32 w 1 0 kTab
  lt : 1 < w.heap.size
theorem KLies.below {w w' : World} (h : KLies w) {B : Nat} (hb : Below B w w') (hB : 1 < B) : KLies w' := ⟨h.seg.below hb hB, Nat.lt_of_lt_of_le h.lt hb.size⟩

theorem infoW : (Tryd.prog.info? 39).map (fun i => (i.zero, i.size, i.bytes)) = some (some (.int .u32 0), 1, 4) := by kernel_rfl
theorem sizeA8 : (Tryd.prog.info? 40).map (·.size) = some 8 := by kernel_rfl
theorem sizeA64 : (Tryd.prog.info? 81).map (·.size) = some 64 := by kernel_rfl
theorem run_index_ints (t : TypeId) (zs : List Int) (ht : Tryd.prog.underlying t = some (.array zs.length 39)) (i : Nat) (hi : i < zs.length) (w : World) :
    (Instr.index t (.agg (zs.map (Value.int .u32)).toArray) (.int .i64 i)).run Tryd.prog w = .ok (.int .u32 (zs.getD i 0)) w := by
  obtain ⟨i0, hi0, hz0, hz1, hz2⟩ := info_parts infoW
  simp [Instr.index, asIntOf, run_underlying ht, sizeOf, typeInfo, hi0, hz1, part, hi, List.getD]

def RoundsPost (w : World) (ws s : List Int) (e : Ending) (w' : World) : Prop :=
  e = .returned (stV (rnds ws s 64)) ∧ Below w.heap.size w w' ∧ w'.heap.size = w.heap.size + 3

set_option maxRecDepth 100000 in
set_option maxHeartbeats 2000000 in
theorem rounds_any (ws s : List Int) (w : World) (hw : ws.length = 64) (hwb : Words32 ws) (hs : s.length = 8) (hsb : Words32 s) (hK : KLies w) :
    Calls Tryd.prog 73 #[stV s, .agg (ws.map (Value.int .u32)).toArray] w (RoundsPost w ws s) := by
  have hix : ∀ (i : Nat), i < 64 → ∀ W, (Instr.index 81 (.agg (ws.map (Value.int .u32)).toArray) (.int .i64 i)).run Tryd.prog W = .ok (.int .u32 (ws.getD i 0)) W :=
    fun i hi W => run_index_ints 81 ws (by rw [hw]; exact Tryd.underlying81) i (by omega) W
  have HIX := Lib.hid hix
  have HW := Lib.hid hw
  have HWB := Lib.hid hwb
  have HK := Lib.hid hK
  have hi64 : (Tryd.prog.info? 81).map (·.size) = some ws.length := by rw [hw]; exact sizeA64
  have HI64 := Lib.hid hi64
  obtain ⟨a, b, c, d, e, f, g, z, rfl⟩ := list_8 s hs
  have HSB := Lib.hid hsb
  clear hix hw hwb hs hsb hi64 hK
  have hrow : ∀ o1 o3, Row .u32 (((w.alloc o1).alloc (.cells (ws.map (Value.int .u32)).toArray 81)).alloc o3) 81 (w.heap.size + 1) ws := fun o1 o3 => by
    have h := (Row.new (k := .u32) (w.alloc o1) 81 ws).alloc o3
    have e : (w.alloc o1).heap.size = w.heap.size + 1 := by simp
    rw [e] at h
    exact h
  have HROW := Lib.hid hrow
  clear hrow
  simp only [stV, List.map_cons, List.map_nil]
  go_enter Tryd.func73, Tryd.ntmps73
  go_wp2_with fail
  go_quiet (fail)
  go_wp2_with (refine wpList_load_ints rfl 81 (.tmp 3) rfl (w.heap.size + 1) rfl 81 .u32 ws (HROW.out _ _) 64 39 Tryd.underlying81 HI64.out ?_)
  go_loopw [5, 6, 7, 8, 9, 10, 11, 12, 34] (fun x0 x1 x2 x3 x4 x5 x6 x7 i wx => ∃ (n : Nat) (a' b' c' d' e' f' g' z' : Int), n ≤ 64 ∧ i = .int .i64 n ∧ x0 = .int .u32 a' ∧ x1 = .int .u32 b' ∧ x2 = .int .u32 c' ∧ x3 = .int .u32 d' ∧ x4 = .int .u32 e' ∧ x5 = .int .u32 f' ∧ x6 = .int .u32 g' ∧ x7 = .int .u32 z' ∧
      rnds ws [a, b, c, d, e, f, g, z] n = [a', b', c', d', e', f', g', z'] ∧ KLies wx ∧ Row .u32 wx 40 (w.heap.size + 2) [0, 0, 0, 0, 0, 0, 0, 0] ∧ Below w.heap.size w wx ∧ wx.heap.size = w.heap.size + 3) (fun _ _ _ _ _ _ _ _ i _ => 64 - (intOf i).toNat)
  case atStart =>
    have b3 : ∀ o1 o2 o3, Below w.heap.size w (((w.alloc o1).alloc o2).alloc o3) := fun o1 o2 o3 => (((Below.refl _ _).alloc (Nat.le_refl _) _).alloc (by simp) _).alloc (by simp; omega) _
    refine ⟨0, a, b, c, d, e, f, g, z, by omega, rfl, rfl, rfl, rfl, rfl, rfl, rfl, rfl, rfl, rfl, ?_, ?_, ?_, ?_⟩
    · exact HK.out.below (below_drewN (b3 _ _ _) _) HK.out.lt
    · have h : ∀ o1 o2, Row .u32 (((w.alloc o1).alloc o2).alloc (.cells (([0, 0, 0, 0, 0, 0, 0, 0] : List Int).map (Value.int .u32)).toArray 40)) 40 (w.heap.size + 2) [0, 0, 0, 0, 0, 0, 0, 0] := fun o1 o2 => by
        have h := Row.new (k := .u32) ((w.alloc o1).alloc o2) 40 [0, 0, 0, 0, 0, 0, 0, 0]
        have e : ((w.alloc o1).alloc o2).heap.size = w.heap.size + 2 := by simp
        rw [e] at h
        exact h
      exact (h _ _).drewN _
    · exact below_drewN (b3 _ _ _) _
    · simp
  case round =>
    obtain ⟨n, a', b', c', d', e', f', g', z', hn, rfl, rfl, rfl, rfl, rfl, rfl, rfl, rfl, rfl, hrn, hK, hr0, hb, hs⟩ := hrel
    have hbd : Words32 (rnds ws [a, b, c, d, e, f, g, z] n) := rnds_bd rfl HSB.out n
    rw [hrn] at hbd
    have HRN := Lib.hid hrn
    have HK2 := Lib.hid hK
    have HR0 := Lib.hid hr0
    have HB := Lib.hid hb
    have HS := Lib.hid hs
    have ba := hbd a' (by simp)
    have bd := hbd d' (by simp)
    have be := hbd e' (by simp)
    have bz := hbd z' (by simp)
    clear hrn hK hr0 hb hs hbd
    by_cases hlt : n < 64
    · have hx := HIX.out n hlt
      have hk := HK2.out.seg.cellD n (by rw [kTab_length]; exact hlt)
      have bw := word_at HWB.out n
      have bk := word_at kTab_bd n
      have hnext : rnds ws [a, b, c, d, e, f, g, z] (n + 1) = rnd [a', b', c', d', e', f', g', z'] (kTab.getD n 0) (ws.getD n 0) := by rw [← HRN.out]; rfl
      simp only [rnd] at hnext
      rw [Nat.zero_add] at hk
      generalize ws.getD n 0 = v at *
      generalize kTab.getD n 0 = kk at *
      have HN := Lib.hid hnext
      clear hnext
      have bl := lowS_bd e' f' g' z' kk v
      have bu := upS_bd a' b' c'
      have nb : (n : Int) < 64 := by omega
      go_wp2_with (first
        | (go_at_call 77; (with_reducible refine (low_any _ _ _ _ _ _ _ be.1 be.2 bz.1 bz.2 bk.1 bk.2 bw.1 bw.2).mono ?_); rintro e' w' ⟨rfl, rfl⟩)
        | (go_at_call 78; (with_reducible refine (up_any _ _ _ _ ba.1 ba.2).mono ?_); rintro e' w' ⟨rfl, rfl⟩))
      go_roundw
      case rel =>
        exact ⟨n + 1, _, _, _, _, _, _, _, _, by omega, by go_num, rfl, rfl, rfl, rfl, rfl, rfl, rfl, rfl, HN.out, HK2.out, HR0.out, HB.out, HS.out⟩
      case measure => simp [intOf]; omega
    · obtain rfl : n = 64 := by omega
      go_wp2_with (first
        | (refine wpList_store_ints rfl 40 (.tmp 4) (.tmp 72) rfl (w.heap.size + 2) .u32 [a', b', c', d', e', f', g', z'] rfl rfl 40 [0, 0, 0, 0, 0, 0, 0, 0] HR0.out sizeA8 rfl ?_
           intro w5 hr5 hg5 hs5
           have HR5 := Lib.hid hr5
           have HG5 := Lib.hid hg5
           have HS5 := Lib.hid hs5
           clear hr5 hg5 hs5))
      refine bodyPost_ret (v := stV [a', b', c', d', e', f', g', z']) (results_cell_row Tryd.results73 _ _ (w.heap.size + 2) 40 _ _ _ rfl HR5.out Tryd.underlying40 rfl sizeA8) rfl ⟨by rw [HRN.out], ?_, ?_⟩
      · exact below_only HB.out HG5.out (by rw [HS.out]; omega) (by omega)
      · rw [HS5.out, HS.out]
end Go.Proofs.YtcplfpnaepdddaaDoor

/- The contract of step. -/
namespace Go.Proofs.YtcplfpnaepdddaaDoor
open Go.RowKit
set_option linter.unusedVariables false

def StepPost (w : World) (s bs : List Int) (e : Ending) (w' : World) : Prop :=
  e = .returned (stV (stepL s bs)) ∧ Below w.heap.size w w'

set_option maxRecDepth 100000 in
set_option maxHeartbeats 2000000 in
theorem step_any (g off cap : Nat) (s bs : List Int) (w : World) (hs : s.length = 8) (hsb : Words32 s) (hl : bs.length = 64) (hb8 : Bytes8 bs) (hseg : Seg .u8 w g off bs) (hcap : 64 ≤ cap) (hg : g < w.heap.size) (hK : KLies w) :
    Calls Tryd.prog 67 #[stV s, .slice (some ⟨g, off, none⟩) 64 cap] w (StepPost w s bs) := by
  have hlen := sched_length bs
  have hwb := sched_bd hb8
  have hi64 : (Tryd.prog.info? 81).map (·.size) = some (sched bs).length := by rw [hlen]; exact sizeA64
  have hi8 : (Tryd.prog.info? 40).map (·.size) = some s.length := by rw [hs]; exact sizeA8
  have HI64 := Lib.hid hi64
  have HI8 := Lib.hid hi8
  have HL := Lib.hid hlen
  have HWB := Lib.hid hwb
  have HS := Lib.hid hs
  have HSB := Lib.hid hsb
  have HK := Lib.hid hK
  have HBS := Lib.hid (And.intro hl (And.intro hb8 hseg))
  clear hlen hwb hi64 hi8 hs hsb hK hl hb8 hseg
  have b2 : ∀ o1 o2, Below w.heap.size w ((w.alloc o1).alloc o2) := fun o1 o2 => ((Below.refl _ _).alloc (Nat.le_refl _) _).alloc (by simp) _
  have B2 := Lib.hid b2
  have r0 : ∀ o2, Row .u32 ((w.alloc (.cells (s.map (Value.int .u32)).toArray 40)).alloc o2) 40 w.heap.size s := fun o2 => (Row.new w 40 s).alloc o2
  have R0 := Lib.hid r0
  have r1 : ∀ o1, Row .u32 ((w.alloc o1).alloc (.cells (([0, 0, 0, 0, 0, 0, 0, 0] : List Int).map (Value.int .u32)).toArray 40)) 40 (w.heap.size + 1) [0, 0, 0, 0, 0, 0, 0, 0] := fun o1 => by
    have h := Row.new (k := .u32) (w.alloc o1) 40 [0, 0, 0, 0, 0, 0, 0, 0]
    have e : (w.alloc o1).heap.size = w.heap.size + 1 := by simp
    rw [e] at h
    exact h
  have R1 := Lib.hid r1
  clear b2 r0 r1
  unfold stV
  go_enter Tryd.func67, Tryd.ntmps67
  go_wp2_with fail
  refine (sched_any g off cap bs _ HBS.out.1 HBS.out.2.1 (by exact HBS.out.2.2.below (B2.out _ _) hg) hcap (by simp; omega)).mono ?_
  rintro e w1 ⟨rfl, hb1, hs1⟩
  have HB1 : Hid (Below w.heap.size w w1) := Lib.hid ((B2.out _ _).trans (hb1.mono (by simp; omega)))
  have HR1 : Hid (Row .u32 w1 40 w.heap.size s) := Lib.hid ((R0.out _).below hb1 (by simp; omega))
  have HZ1 : Hid (Row .u32 w1 40 (w.heap.size + 1) [0, 0, 0, 0, 0, 0, 0, 0]) := Lib.hid ((R1.out _).below hb1 (by simp))
  have HS1 : Hid (w1.heap.size = w.heap.size + 4) := Lib.hid (by rw [hs1]; simp)
  clear hb1 hs1
  go_wp2_with (first
    | (refine wpList_store_ints rfl 81 (.tmp 5) (.tmp 9) rfl w1.heap.size .u32 (sched bs) rfl rfl 81 (List.replicate 64 0) (Row.new w1 81 (List.replicate 64 0)) HI64.out (by rw [HL.out]; simp) ?_
       intro w2 hr2 hg2 hs2
       have HW2 := Lib.hid hr2
       have HB2 : Hid (Below w.heap.size w w2) := Lib.hid (below_only (HB1.out.alloc HB1.out.size _) hg2 (by have := HB1.out.size; simp; omega) HB1.out.size)
       have HR2 : Hid (Row .u32 w2 40 w.heap.size s) := Lib.hid ((HR1.out.alloc _).grown hg2 (by have := HR1.out.lt; simp; omega))
       have HZ2 : Hid (Row .u32 w2 40 (w.heap.size + 1) [0, 0, 0, 0, 0, 0, 0, 0]) := Lib.hid ((HZ1.out.alloc _).grown hg2 (by have := HZ1.out.lt; simp; omega))
       have HS2 : Hid (w2.heap.size = w.heap.size + 5) := Lib.hid (by rw [hs2]; simp [HS1.out])
       clear hr2 hg2 hs2)
    | (refine wpList_load_ints rfl 40 (.tmp 2) rfl w.heap.size rfl 40 .u32 s HR2.out 8 39 Tryd.underlying40 HI8.out ?_)
    | (refine wpList_load_ints rfl 81 (.tmp 5) rfl w1.heap.size rfl 81 .u32 (sched bs) HW2.out 64 39 Tryd.underlying81 HI64.out ?_))
  refine (rounds_any (sched bs) s w2 HL.out HWB.out HS.out HSB.out (HK.out.below HB2.out HK.out.lt)).mono ?_
  rintro e w3 ⟨rfl, hb3, hs3⟩
  have hxl : (rnds (sched bs) s 64).length = 8 := rnds_length HS.out 64
  have hfin : stepL s bs = addN (rnds (sched bs) s 64) s 8 := (addN_all hxl HS.out).symm
  have hxb : Words32 (rnds (sched bs) s 64) := rnds_bd HS.out HSB.out 64
  generalize rnds (sched bs) s 64 = x at *
  have HXL := Lib.hid hxl
  have HFIN := Lib.hid hfin
  have HXB := Lib.hid hxb
  have HB3 : Hid (Below w.heap.size w w3) := Lib.hid (HB2.out.trans (hb3.mono HB2.out.size))
  have HR3 : Hid (Row .u32 w3 40 w.heap.size s) := Lib.hid (HR2.out.below hb3 HR2.out.lt)
  have HZ3 : Hid (Row .u32 w3 40 (w.heap.size + 1) [0, 0, 0, 0, 0, 0, 0, 0]) := Lib.hid (HZ2.out.below hb3 HZ2.out.lt)
  have HS3 : Hid (w3.heap.size = w.heap.size + 8) := Lib.hid (by rw [hs3, HS2.out])
  have hi8x : (Tryd.prog.info? 40).map (·.size) = some x.length := by rw [hxl]; exact sizeA8
  have HI8X := Lib.hid hi8x
  clear hxl hfin hxb hb3 hs3 hi8x
  go_wp2_with (first
    | (refine wpList_store_ints rfl 40 (.tmp 6) (.tmp 12) rfl w3.heap.size .u32 x rfl rfl 40 [0, 0, 0, 0, 0, 0, 0, 0] (Row.new w3 40 [0, 0, 0, 0, 0, 0, 0, 0]) HI8X.out (by rw [HXL.out]; rfl) ?_
       intro w4 hr4 hg4 hs4
       have HX4 := Lib.hid hr4
       have HB4 : Hid (Below w.heap.size w w4) := Lib.hid (below_only (HB3.out.alloc HB3.out.size _) hg4 (by have := HB3.out.size; simp; omega) HB3.out.size)
       have HR4 : Hid (Row .u32 w4 40 w.heap.size s) := Lib.hid ((HR3.out.alloc _).grown hg4 (by have := HR3.out.lt; simp; omega))
       have HZ4 : Hid (Row .u32 w4 40 (w.heap.size + 1) [0, 0, 0, 0, 0, 0, 0, 0]) := Lib.hid ((HZ3.out.alloc _).grown hg4 (by have := HZ3.out.lt; simp; omega))
       have HS4 : Hid (w4.heap.size = w.heap.size + 9) := Lib.hid (by rw [hs4]; simp [HS3.out])
       clear hr4 hg4 hs4))
  go_loopw [13] (fun i wx => ∃ n : Nat, n ≤ 8 ∧ i = .int .i64 n ∧ Row .u32 wx 40 w3.heap.size (addN x s n) ∧ Row .u32 wx 40 w.heap.size s ∧ Row .u32 wx 40 (w.heap.size + 1) [0, 0, 0, 0, 0, 0, 0, 0] ∧ Below w.heap.size w wx) (fun i _ => 8 - (intOf i).toNat)
  case atStart => exact ⟨0, by omega, rfl, HX4.out, HR4.out, HZ4.out, HB4.out⟩
  case round =>
    obtain ⟨n, hn, rfl, hx, hr, hz, hb⟩ := hrel
    have HX := Lib.hid hx
    have HR := Lib.hid hr
    have HZ := Lib.hid hz
    have HB := Lib.hid hb
    clear hx hr hz hb
    by_cases hlt : n < 8
    · have c1 := HX.out.cellD n (by rw [addN_length, HXL.out]; exact hlt)
      have c2 := HR.out.cellD n (by rw [HS.out]; exact hlt)
      have f1 := HX.out.frozen n
      rw [addN_get x s n n (Nat.le_refl _)] at c1
      have b1 := word_at HXB.out n
      have b2 := word_at HSB.out n
      have hst : ∀ q, Row .u32 ((wr.drewN q).setCell ⟨w3.heap.size, n, none⟩ (.int .u32 ((x.getD n 0 + s.getD n 0) % 4294967296))) 40 w3.heap.size (addN x s (n + 1)) := fun q => (HX.out.drewN q).set n _
      generalize x.getD n 0 = y at *
      generalize s.getD n 0 = v at *
      have HST := Lib.hid hst
      have nb : (n : Int) < 8 := by omega
      clear hst
      go_wp2_with fail
      go_region
      go_wp2_with fail
      go_roundw
      case rel =>
        refine ⟨n + 1, by omega, by go_num, ?_, ?_, ?_, ?_⟩
        · first
            | exact HST.out _
            | exact HST.out 1
        · exact HR.out.drew.far (by have := HR4.out.lt; have := HS3.out; simp; omega) _
        · exact HZ.out.drew.far (by have := HS3.out; simp; omega) _
        · exact HB.out.drew.setCell (by have := HS3.out; simp; omega) _
      case measure => simp [intOf]; omega
    · obtain rfl : n = 8 := by omega
      have hi8y : (Tryd.prog.info? 40).map (·.size) = some (addN x s 8).length := by rw [addN_length]; exact HI8X.out
      have HI8Y := Lib.hid hi8y
      clear hi8y
      go_wp2_with (first
        | (refine wpList_load_ints rfl 40 (.tmp 6) rfl w3.heap.size rfl 40 .u32 (addN x s 8) HX.out 8 39 Tryd.underlying40 HI8Y.out ?_)
        | (refine wpList_store_ints rfl 40 (.tmp 4) (.tmp 25) rfl (w.heap.size + 1) .u32 (addN x s 8) rfl rfl 40 [0, 0, 0, 0, 0, 0, 0, 0] HZ.out HI8Y.out (by rw [addN_length, HXL.out]; rfl) ?_
           intro w5 hr5 hg5 hs5
           have HR5 := Lib.hid hr5
           have HG5 := Lib.hid hg5
           clear hr5 hg5 hs5))
      refine bodyPost_ret (v := stV (addN x s 8)) (results_cell_row Tryd.results67 _ _ (w.heap.size + 1) 40 _ _ _ rfl HR5.out Tryd.underlying40 rfl (by rw [ints_size]; exact HI8Y.out)) rfl ⟨by rw [HFIN.out], ?_⟩
      exact below_only HB.out HG5.out HB.out.size (by omega)
end Go.Proofs.YtcplfpnaepdddaaDoor

/- Contracts of First and Step. -/
namespace Go.Proofs.YtcplfpnaepdddaaDoor
open Go.RowKit
set_option linter.unusedVariables false

/-- Both tables lie where the program has them. -/
structure TabLies (w : World) : Prop where
  k : ∃ t fr, w.heap[1]? = some (.cells (kTab.map (Value.int .u32)).toArray t fr)
  h : ∃ t fr, w.heap[0]? = some (.cells (hTab.map (Value.int .u32)).toArray t fr)
theorem heap_lt {w : World} {g : Nat} {o : Obj} (h : w.heap[g]? = some o) : g < w.heap.size := by
  rcases Nat.lt_or_ge g w.heap.size with hlt | hge
  · exact hlt
  · rw [Array.getElem?_eq_none hge] at h; cases h
theorem TabLies.kl {w : World} (h : TabLies w) : KLies w := by
  obtain ⟨t, fr, hk⟩ := h.k
  refine ⟨fun i hi => ?_, heap_lt hk⟩
  rw [Nat.zero_add, cell_of_row w _ i _ t fr hk]
  simp [hi]
theorem TabLies.below {w w' : World} (h : TabLies w) {B : Nat} (hb : Below B w w') (hB : w.heap.size ≤ B) : TabLies w' := by
  obtain ⟨t, fr, hk⟩ := h.k
  obtain ⟨t', fr', hh⟩ := h.h
  exact ⟨⟨t, fr, (hb.block _ (Nat.lt_of_lt_of_le (heap_lt hk) hB)).trans hk⟩, ⟨t', fr', (hb.block _ (Nat.lt_of_lt_of_le (heap_lt hh) hB)).trans hh⟩⟩

def FirstPost (w : World) (e : Ending) (w' : World) : Prop := e = .returned (stV hTab) ∧ Below w.heap.size w w'
set_option maxRecDepth 100000 in
theorem First_any (w : World) (hT : TabLies w) : Calls Tryd.prog 59 #[] w (FirstPost w) := by
  obtain ⟨t, fr, hh⟩ := hT.h
  have HH : ∀ o, Hid ((w.alloc o).heap[0]? = some (.cells (hTab.map (Value.int .u32)).toArray t fr)) := fun o => Lib.hid ((Below.heap_alloc w o _ (heap_lt hh)).trans hh)
  clear hh hT
  go_enter Tryd.func59, Tryd.ntmps59
  go_wp2_with (first
    | (refine wpList_load_row rfl 40 (.global 0) rfl 0 rfl t _ fr _ (HH _).out Tryd.underlying40 rfl sizeA8 ?_)
    | (refine wpList_store_ints rfl 40 (.tmp 0) (.tmp 1) rfl w.heap.size .u32 hTab rfl rfl 40 [0, 0, 0, 0, 0, 0, 0, 0] (Row.new w 40 [0, 0, 0, 0, 0, 0, 0, 0]) sizeA8 rfl ?_
       intro w5 hr5 hg5 hs5
       have HR5 := Lib.hid hr5
       have HG5 := Lib.hid hg5
       clear hr5 hg5 hs5))
  refine bodyPost_ret (v := stV hTab) (results_cell_row Tryd.results59 _ _ w.heap.size 40 _ _ _ rfl HR5.out Tryd.underlying40 rfl sizeA8) rfl ⟨rfl, ?_⟩
  exact below_only ((Below.refl _ _).alloc (Nat.le_refl _) _) HG5.out (by simp) (Nat.le_refl _)
end Go.Proofs.YtcplfpnaepdddaaDoor

/- The contract of steps. -/
namespace Go.Proofs.YtcplfpnaepdddaaDoor
open Go.RowKit
set_option linter.unusedVariables false

def StepsPost (w : World) (s bs : List Int) (m : Nat) (e : Ending) (w' : World) : Prop := e = .returned (stV (stepsL s bs m)) ∧ Below w.heap.size w w'

set_option maxRecDepth 100000 in
set_option maxHeartbeats 2000000 in
theorem steps_any (a : Option Addr) (n cap m : Nat) (s bs : List Int) (w : World) (hs : s.length = 8) (hsb : Words32 s) (hin : InBytes w a n cap bs) (hm : n = 64 * m) (hK : KLies w) :
    Calls Tryd.prog 58 #[stV s, .slice a n cap] w (StepsPost w s bs m) := by
  have hmax := hin.max
  have hle := hin.le
  simp only [maxLen] at hmax
  have b2 : ∀ o1 o2, Below w.heap.size w ((w.alloc o1).alloc o2) := fun o1 o2 => ((Below.refl _ _).alloc (Nat.le_refl _) _).alloc (by simp) _
  have r0 : ∀ o2, Row .u32 ((w.alloc (.cells (s.map (Value.int .u32)).toArray 40)).alloc o2) 40 w.heap.size s := fun o2 => (Row.new w 40 s).alloc o2
  have r1 : ∀ o1, Row .u32 ((w.alloc o1).alloc (.cells (([0, 0, 0, 0, 0, 0, 0, 0] : List Int).map (Value.int .u32)).toArray 40)) 40 (w.heap.size + 1) [0, 0, 0, 0, 0, 0, 0, 0] := fun o1 => by
    have h := Row.new (k := .u32) (w.alloc o1) 40 [0, 0, 0, 0, 0, 0, 0, 0]
    have e : (w.alloc o1).heap.size = w.heap.size + 1 := by simp
    rw [e] at h
    exact h
  have B2 := Lib.hid b2
  have R0 := Lib.hid r0
  have R1 := Lib.hid r1
  have HS := Lib.hid hs
  have HSB := Lib.hid hsb
  have HIN := Lib.hid hin
  have HK := Lib.hid hK
  have HM := Lib.hid hm
  clear b2 r0 r1 hs hsb hin hK hm
  unfold stV
  go_enter Tryd.func58, Tryd.ntmps58
  go_wp2_with fail
  go_loopw [5] (fun i wx => ∃ q : Nat, q ≤ m ∧ i = .int .i64 (64 * (q : Int)) ∧ Row .u32 wx 40 w.heap.size (stepsL s bs q) ∧ Row .u32 wx 40 (w.heap.size + 1) [0, 0, 0, 0, 0, 0, 0, 0] ∧ Below w.heap.size w wx ∧ w.heap.size + 2 ≤ wx.heap.size) (fun i _ => 64 * m - (intOf i).toNat)
  case atStart => exact ⟨0, by omega, rfl, R0.out _, R1.out _, B2.out _ _, by simp⟩
  case round =>
    obtain ⟨q, hq, rfl, hr, hz, hb, hsz⟩ := hrel
    have HR := Lib.hid hr
    have HZ := Lib.hid hz
    have HB := Lib.hid hb
    clear hr hz hb
    have hn := HM.out
    by_cases hlt : q < m
    · obtain ⟨g, off, rfl, hg, hseg⟩ := HIN.out.place (by omega)
      have hl8 : (stepsL s bs q).length = 8 := stepsL_length HS.out bs q
      have hc : ∀ W, Below wr.heap.size wr W → Calls Tryd.prog 67 #[stV (stepsL s bs q), .slice (some ⟨g, off + 64 * q, none⟩) 64 (cap - 64 * q)] W (StepPost W (stepsL s bs q) ((bs.drop (64 * q)).take 64)) := fun W hW => by
        have hbW : Below w.heap.size w W := HB.out.trans (hW.mono HB.out.size)
        refine step_any g (off + 64 * q) (cap - 64 * q) _ _ W hl8 (stepsL_bd HSB.out bs q) ?_ ?_ ?_ (by omega) (Nat.lt_of_lt_of_le hg hbW.size) (HK.out.below hbW HK.out.lt)
        · have := HIN.out.len
          simp; omega
        · exact fun z hz => HIN.out.bytes z (List.mem_of_mem_drop (List.mem_of_mem_take hz))
        · exact ((hseg.below hbW hg).drop (64 * q)).take 64
      obtain ⟨y0, y1, y2, y3, y4, y5, y6, y7, hy⟩ := list_8 (stepL (stepsL s bs q) ((bs.drop (64 * q)).take 64)) (stepL_length hl8 _)
      have hnx : stepsL s bs (q + 1) = [y0, y1, y2, y3, y4, y5, y6, y7] := hy
      obtain ⟨x0, x1, x2, x3, x4, x5, x6, x7, hx⟩ := list_8 (stepsL s bs q) hl8
      have hc2 : ∀ W, Below wr.heap.size wr W → Calls Tryd.prog 67 #[.agg #[.int .u32 x0, .int .u32 x1, .int .u32 x2, .int .u32 x3, .int .u32 x4, .int .u32 x5, .int .u32 x6, .int .u32 x7], .slice (some ⟨g, off + 64 * q, none⟩) 64 (cap - 64 * q)] W (fun e w' => e = .returned (.agg #[.int .u32 y0, .int .u32 y1, .int .u32 y2, .int .u32 y3, .int .u32 y4, .int .u32 y5, .int .u32 y6, .int .u32 y7]) ∧ Below W.heap.size W w') := fun W hW => by
        have h := hc W hW
        unfold StepPost at h
        rw [hy, hx] at h
        exact h
      have hr := HR.out
      rw [hx] at hr
      have HC := Lib.hid hc2
      have HNX := Lib.hid hnx
      have HR2 := Lib.hid hr
      have c0 := hr.cell 0 (by simp)
      have c1 := hr.cell 1 (by simp)
      have c2 := hr.cell 2 (by simp)
      have c3 := hr.cell 3 (by simp)
      have c4 := hr.cell 4 (by simp)
      have c5 := hr.cell 5 (by simp)
      have c6 := hr.cell 6 (by simp)
      have c7 := hr.cell 7 (by simp)
      simp only [List.getElem_cons_zero, List.getElem_cons_succ] at c0 c1 c2 c3 c4 c5 c6 c7
      have k1 : 64 * (q : Int) < (n : Int) := by omega
      have k2 : (64 * (q : Int) + 64).toNat = 64 * q + 64 := by omega
      have k3 : IntKind.i64.wrap (64 * (q : Int) + 64) = 64 * (q : Int) + 64 := IntWalk.i64_in _ (by omega)
      have k4 : (0 : Int) ≤ 64 * (q : Int) := by omega
      have k5 : 64 * (q : Int) + 64 ≤ (cap : Int) := by omega
      have k6 : (64 * (q : Int)).toNat = 64 * q := by omega
      have k8 : ¬ cap = 64 * q := by omega
      have k7 : 64 * (q : Int) ≤ 64 * (q : Int) + 64 := by omega
      clear hl8 hc hn hseg hy hnx hx hc2 hr
      go_wp2_with fail
      go_region_with (go_at_call 67; (with_reducible refine (HC.out _ (Below.refl _ _).drew).mono ?_); rintro _ w3 ⟨rfl, hb3⟩; have HR3 : Hid (Row .u32 w3 40 w.heap.size [x0, x1, x2, x3, x4, x5, x6, x7]) := Lib.hid (HR2.out.drew.below hb3 HR2.out.lt); have HZ3 : Hid (Row .u32 w3 40 (w.heap.size + 1) [0, 0, 0, 0, 0, 0, 0, 0]) := Lib.hid (HZ.out.drew.below hb3 HZ.out.lt); have hcc := fun o => hb3.cell (p := ⟨w.heap.size, o, none⟩) HR2.out.lt; have hff := fun o => HR3.out.frozen o; have HB3 : Hid (Below w.heap.size w w3) := Lib.hid (HB.out.drew.trans (hb3.mono HB.out.size)); clear hb3)
      clear k1 k2 k3 k4 k5 k6 k7 k8 hcc hff c0 c1 c2 c3 c4 c5 c6 c7
      have hn := HM.out
      have k9 : 64 * (q : Int) + 64 ≤ 9223372036854775807 := by omega
      clear hn
      go_wp2_with fail
      go_roundw
      case rel =>
        have hlt2 := HR2.out.lt
        refine ⟨q + 1, by omega, by congr 1, ?_, ?_, ?_, ?_⟩
        · rw [HNX.out]
          exact ((((((((HR3.out.set 0 y0).set 1 y1).set 2 y2).set 3 y3).set 4 y4).set 5 y5).set 6 y6).set 7 y7)
        · exact ((((((((HZ3.out.far (by simp) _).far (by simp) _).far (by simp) _).far (by simp) _).far (by simp) _).far (by simp) _).far (by simp) _).far (by simp) _)
        · exact ((((((((HB3.out.setCell (Nat.le_refl _) _).setCell (Nat.le_refl _) _).setCell (Nat.le_refl _) _).setCell (Nat.le_refl _) _).setCell (Nat.le_refl _) _).setCell (Nat.le_refl _) _).setCell (Nat.le_refl _) _).setCell (Nat.le_refl _) _)
        · have := HZ3.out.lt
          simp [World.setCell]; omega
      case measure => simp [intOf]; omega
    · obtain rfl : q = m := by omega
      have hi8 : (Tryd.prog.info? 40).map (·.size) = some (stepsL s bs q).length := by rw [stepsL_length HS.out]; exact sizeA8
      have HI8 := Lib.hid hi8
      have k1 : ¬ 64 * (q : Int) < (n : Int) := by omega
      clear hi8 hn
      go_wp2_with (first
        | (refine wpList_load_ints rfl 40 (.tmp 2) rfl w.heap.size rfl 40 .u32 (stepsL s bs q) HR.out 8 39 Tryd.underlying40 HI8.out ?_)
        | (refine wpList_store_ints rfl 40 (.tmp 4) (.tmp 19) rfl (w.heap.size + 1) .u32 (stepsL s bs q) rfl rfl 40 [0, 0, 0, 0, 0, 0, 0, 0] HZ.out HI8.out (by rw [stepsL_length HS.out]; rfl) ?_
           intro w5 hr5 hg5 hs5
           have HR5 := Lib.hid hr5
           have HG5 := Lib.hid hg5
           clear hr5 hg5 hs5))
      refine bodyPost_ret (v := stV (stepsL s bs q)) (results_cell_row Tryd.results58 _ _ (w.heap.size + 1) 40 _ _ _ rfl HR5.out Tryd.underlying40 rfl (by rw [ints_size]; exact HI8.out)) rfl ⟨rfl, ?_⟩
      exact below_only HB.out HG5.out HB.out.size (by omega)
end Go.Proofs.YtcplfpnaepdddaaDoor

/- Contracts of withTail and stateBytes. -/
namespace Go.Proofs.YtcplfpnaepdddaaDoor
open Go.RowKit
set_option linter.unusedVariables false

def WithTailPost (w : World) (r : List Int) (n : Nat) (e : Ending) (w' : World) : Prop :=
  ∃ g cap, e = .returned (.slice (some ⟨g, 0, none⟩) (r.length + (nils n + 9)) cap) ∧ w'.ownsRow w.heap.size 5 1 (.slice (some ⟨g, 0, none⟩) (r.length + (nils n + 9)) cap) (r.length + (nils n + 9)) ((r ++ tailL n).map (Value.int .u8)) ∧ Below w.heap.size w w'

set_option maxRecDepth 100000 in
set_option maxHeartbeats 1000000 in
theorem withTail_any (a : Option Addr) (k cap n : Nat) (r : List Int) (w : World) (hin : InBytes w a k cap r) (hk : k < 64) (hn : (n : Int) ≤ 1125899906842624) :
    Calls Tryd.prog 60 #[.slice a k cap, .int .i64 n] w (WithTailPost w r n) := by
  obtain ⟨i0, hi0, hz0, hz1, hz2⟩ := info_parts infoU8
  have hnl := nils_lt n
  have hlen := tailL_length n
  have hrl := hin.len
  have HIN := Lib.hid hin
  have HLEN := Lib.hid hlen
  have HRL := Lib.hid hrl
  clear hin hlen hrl
  go_enter Tryd.func60, Tryd.ntmps60
  go_wp2_with (first
    | (at_make
       refine wpList_make_own _ rfl (.const (.int .i64 0)) (.const (.int .i64 128)) 22 rfl w.heap.size 5 i0 _ 1 Tryd.underlying22 hi0 hz0 hz1 .i64 .i64 _ 128 rfl rfl rfl (by rw [hz2]; omega) (by simp only [maxLen]; omega) (Nat.le_refl _) ?_
       intro w1 hown1 hg1
       have HO1 := Lib.hid hown1
       have HB1 : Hid (Below w.heap.size w w1) := Lib.hid ((Below.refl _ _).grown hg1 (Nat.le_refl _) (by simp))
       clear hown1 hg1)
    | (at_builtin
       refine wpList_append_bytes _ rfl (.tmp 7) (.tmp 8) 22 rfl w.heap.size 5 i0 _ 1 Tryd.underlying22 hi0 hz0 hz1 hz2 rfl (.slice (some ⟨w.heap.size, 0, none⟩) 0 128) 0 [] rfl HO1.out a k cap r rfl (HIN.out.below HB1.out) (by simp only [maxLen]; omega) (by omega) HB1.out.size ?_
       intro v2 w2 hown2 hg2
       have HO2 := Lib.hid hown2
       have HB2 : Hid (Below w.heap.size w w2) := Lib.hid (HB1.out.grown hg2 HB1.out.size (fun j hj => (HO1.out.lt j hj).1))
       clear hown2 hg2)
    | (go_at_call 68
       (with_reducible refine (tail_any n _ hn).mono ?_)
       rintro e w3 ⟨rfl, hr3, hb3, hs3⟩
       have HO3 : Hid (w3.ownsRow w.heap.size 5 1 v2 (0 + k) ([] ++ r.map (Value.int .u8))) := Lib.hid (HO2.out.kept (only_below hb3 none) (by cases v2.ownBlock <;> simp))
       have HB3 : Hid (Below w.heap.size w w3) := Lib.hid (HB2.out.trans (hb3.mono HB2.out.size))
       have HR3 := Lib.hid hr3
       clear hr3 hb3 hs3)
    | (at_builtin
       refine wpList_append_own _ rfl (.tmp 10) (.tmp 12) 22 rfl w.heap.size 5 i0 _ 1 1 Tryd.underlying22 hi0 hz0 hz1 hz2 rfl (by omega) v2 (0 + k) ([] ++ r.map (Value.int .u8)) rfl HO3.out ⟨w2.heap.size, 0, none⟩ (nils n + 9) (nils n + 9) ((tailL n).map (Value.int .u8)) rfl (by simp [HLEN.out]) (by exact HR3.out.seg.news) (by simp [Value.oneCell']) (by simp only [maxLen]; omega) (by omega) HB3.out.size ?_
       intro v4 w4 hown4 hg4 hat4
       obtain ⟨g4, cap4, hv4, hgg4, hlt4⟩ := hown4.form (by omega)
       rw [hv4]
       rw [hv4] at hown4
       have HO4 := Lib.hid hown4
       have HB4 : Hid (Below w.heap.size w w4) := Lib.hid (HB3.out.grown hg4 HB3.out.size (fun j hj => (HO3.out.lt j hj).1))
       clear hown4 hg4 hat4 hv4))
  go_ret
  refine ⟨g4, cap4, ?_, ?_, HB4.out⟩
  · rw [HRL.out]; simp
  · have h := HO4.out
    rw [List.nil_append, Nat.zero_add, ← List.map_append, ← HRL.out] at h
    exact h
end Go.Proofs.YtcplfpnaepdddaaDoor

/- The contract of stateBytes. -/
namespace Go.Proofs.YtcplfpnaepdddaaDoor
open Go.RowKit
set_option linter.unusedVariables false

theorem putB_be4 (pre : List Int) (k : Nat) (x : Int) : putB (pre ++ List.replicate (k + 4) 0) pre.length 4 x 4 = (pre ++ be4 x) ++ List.replicate k 0 := by
  rw [putB_append, List.append_assoc]
  congr 1
  simp [putB, be4, List.replicate_succ]
theorem bytesL_take (s : List Int) (i : Nat) (h : i < s.length) : bytesL (s.take (i + 1)) = bytesL (s.take i) ++ be4 (s.getD i 0) := by
  rw [List.take_succ_eq_append_getElem h]
  simp only [bytesL, List.flatMap_append, List.flatMap_cons, List.flatMap_nil, List.append_nil]
  simp [List.getD, h]
theorem bytesL_length (s : List Int) : (bytesL s).length = 4 * s.length := by
  induction s with
  | nil => rfl
  | cons a r ih => simp only [bytesL, List.flatMap_cons, List.length_append, List.length_cons] at ih ⊢; rw [ih]; simp [be4]; omega

def StateBytesPost (w : World) (s : List Int) (e : Ending) (w' : World) : Prop :=
  e = .returned (.slice (some ⟨w.heap.size + 1, 0, none⟩) 32 32) ∧ Row .u8 w' 5 (w.heap.size + 1) (bytesL s) ∧ Below w.heap.size w w'

set_option maxRecDepth 100000 in
set_option maxHeartbeats 1000000 in
theorem stateBytes_any (s : List Int) (w : World) (hs : s.length = 8) (hsb : Words32 s) :
    Calls Tryd.prog 61 #[stV s] w (StateBytesPost w s) := by
  obtain ⟨i0, hi0, hz0, hz1, hz2⟩ := info_parts infoU8
  have hix : ∀ (i : Nat), i < 8 → ∀ W, (Instr.index 40 (.agg (s.map (Value.int .u32)).toArray) (.int .i64 i)).run Tryd.prog W = .ok (.int .u32 (s.getD i 0)) W :=
    fun i hi W => run_index_ints 40 s (by rw [hs]; exact Tryd.underlying40) i (by omega) W
  have hi8 : (Tryd.prog.info? 40).map (·.size) = some s.length := by rw [hs]; exact sizeA8
  have HI8 := Lib.hid hi8
  have HIX := Lib.hid hix
  have HS := Lib.hid hs
  have HSB := Lib.hid hsb
  clear hix hi8 hs hsb
  unfold stV
  go_enter Tryd.func61, Tryd.ntmps61
  go_wp2_with (first
    | (at_make
       refine wpList_make_ints _ rfl (.const (.int .i64 32)) (.const (.int .i64 32)) 22 rfl 5 i0 .u8 Tryd.underlying22 hi0 hz0 hz1 .i64 .i64 _ _ 32 rfl rfl (by omega) (by omega) (by rw [hz2]; omega) (by simp only [maxLen]; omega) ?_
       intro w1 hr1 hb1 hs1
       have HR1 : Hid (Row .u8 w1 5 (w.heap.size + 1) (List.replicate 32 0)) := Lib.hid (by have h := hr1; simp only [World.size_alloc] at h; exact h)
       have HV1 : Hid (Row .u32 w1 40 w.heap.size s) := Lib.hid ((Row.new w 40 s).below hb1 (by simp))
       have HB1 : Hid (Below w.heap.size w w1) := Lib.hid (((Below.refl _ _).alloc (Nat.le_refl _) _).trans (hb1.mono (by simp)))
       clear hr1 hb1 hs1)
    | (refine wpList_load_ints rfl 40 (.tmp 1) rfl w.heap.size rfl 40 .u32 s HV1.out 8 39 Tryd.underlying40 HI8.out ?_))
  go_loopw [8] (fun i wx => ∃ n : Nat, n ≤ 8 ∧ i = .int .i64 n ∧ Row .u8 wx 5 (w.heap.size + 1) (bytesL (s.take n) ++ List.replicate (32 - 4 * n) 0) ∧ Below w.heap.size w wx) (fun i _ => 8 - (intOf i).toNat)
  case atStart => exact ⟨0, by omega, rfl, HR1.out, HB1.out⟩
  case round =>
    obtain ⟨n, hn, rfl, hr, hb⟩ := hrel
    have HR := Lib.hid hr
    have HB := Lib.hid hb
    clear hr hb
    by_cases hlt : n < 8
    · have hx := HIX.out n hlt
      have bx := word_at HSB.out n
      have hnx := bytesL_take s n (by rw [HS.out]; exact hlt)
      generalize s.getD n 0 = x at *
      have HNX := Lib.hid hnx
      clear hnx
      have hpl : (bytesL (s.take n)).length = 4 * n := by rw [bytesL_length, List.length_take, HS.out]; omega
      have hput := putB_be4 (bytesL (s.take n)) (28 - 4 * n) x
      rw [hpl, show 28 - 4 * n + 4 = 32 - 4 * n by omega] at hput
      have HPUT := Lib.hid hput
      have HPL := Lib.hid hpl
      clear hput hpl
      go_wp2_with fail
      rw [show 4 * (n + 1) - 4 * n = 4 by omega]
      refine (putBig_any (w.heap.size + 1) (4 * n) 4 (32 - 4 * n) _ x wr HR.out (by rw [List.length_append, HPL.out, List.length_replicate]; omega) (by omega) bx.1 (by omega)).mono ?_
      rintro e w2 ⟨rfl, hr2, hs2, hg2⟩
      rw [HPUT.out, ← HNX.out] at hr2
      have HR2 := Lib.hid hr2
      have HB2 : Hid (Below w.heap.size w w2) := Lib.hid (below_only HB.out hg2 HB.out.size (by omega))
      clear hr2 hs2 hg2
      go_wp2_with fail
      go_roundw
      case rel => exact ⟨n + 1, by omega, by go_num, by rw [show 32 - 4 * (n + 1) = 28 - 4 * n by omega]; exact HR2.out, HB2.out⟩
      case measure => simp [intOf]; omega
    · obtain rfl : n = 8 := by omega
      have hfin : bytesL (s.take 8) ++ List.replicate (32 - 4 * 8) 0 = bytesL s := by
        rw [List.take_of_length_le (by rw [HS.out]; omega)]
        simp
      have hr := HR.out
      rw [hfin] at hr
      have HR2 := Lib.hid hr
      clear hr hfin
      go_wp2_with fail
      go_ret
      exact ⟨rfl, HR2.out, HB.out⟩
end Go.Proofs.YtcplfpnaepdddaaDoor

/- The contract of Sum. -/
namespace Go.Proofs.YtcplfpnaepdddaaDoor
open Go.RowKit
set_option linter.unusedVariables false

def SumPost (w : World) (bs : List Int) (e : Ending) (w' : World) : Prop :=
  ∃ g, w.heap.size ≤ g ∧ e = .returned (.slice (some ⟨g, 0, none⟩) 32 32) ∧ Row .u8 w' 5 g (sumL bs) ∧ Below w.heap.size w w'

set_option maxRecDepth 100000 in
set_option maxHeartbeats 2000000 in
theorem Sum_any (a : Option Addr) (n cap : Nat) (bs : List Int) (w : World) (hin : InBytes w a n cap bs) (hn : (n : Int) ≤ 1125899906842624) (hT : TabLies w) :
    Calls Tryd.prog 51 #[.slice a n cap] w (SumPost w bs) := by
  obtain ⟨m, r, hr, hnm⟩ : ∃ m r, r < 64 ∧ n = 64 * m + r := ⟨n / 64, n % 64, by omega, by omega⟩
  have hle := hin.le
  have hmax := hin.max
  simp only [maxLen] at hmax
  have hwh : (n : Int) - (n : Int) % 64 = 64 * (m : Int) := by omega
  have HIN := Lib.hid hin
  have HT := Lib.hid hT
  have HNM := Lib.hid hnm
  have k1 : (64 * (m : Int)).toNat = 64 * m := by omega
  have k2 : (0 : Int) ≤ 64 * (m : Int) := by omega
  have k3 : 64 * (m : Int) ≤ (cap : Int) := by omega
  have k4 : 64 * (m : Int) ≤ (n : Int) := by omega
  clear hin hT hnm
  go_enter Tryd.func51, Tryd.ntmps51
  go_upto_region 2 with fail
  have hstep : ∀ W, Below w.heap.size w W → Calls Tryd.prog 58 #[stV hTab, .slice a (64 * m) cap] W (StepsPost W hTab (bs.take (64 * m)) m) := fun W hW =>
    steps_any a (64 * m) cap m hTab _ W rfl hTab_bd ((HIN.out.below hW).upto (64 * m) (by have := HNM.out; omega)) rfl (HT.out.below hW (Nat.le_refl _)).kl
  have hfirst : ∀ W, Below w.heap.size w W → Calls Tryd.prog 59 #[] W (FirstPost W) := fun W hW => First_any W (HT.out.below hW (Nat.le_refl _))
  obtain ⟨y0, y1, y2, y3, y4, y5, y6, y7, hy⟩ := list_8 (stepsL hTab (bs.take (64 * m)) m) (stepsL_length rfl _ m)
  have hstep2 : ∀ W, Below w.heap.size w W → Calls Tryd.prog 58 #[stV hTab, .slice a (64 * m) cap] W (fun e w' => e = .returned (.agg #[.int .u32 y0, .int .u32 y1, .int .u32 y2, .int .u32 y3, .int .u32 y4, .int .u32 y5, .int .u32 y6, .int .u32 y7]) ∧ Below W.heap.size W w') := fun W hW => by
    have h := hstep W hW
    unfold StepsPost at h
    rw [hy] at h
    exact h
  have HSTEP := Lib.hid hstep2
  have HFIRST := Lib.hid hfirst
  have HY := Lib.hid hy
  clear hstep hstep2 hfirst hy
  go_cut [4] (fun s4 wx => ∃ g : Nat, s4 = .pointer (some ⟨g, 0, none⟩) ∧ w.heap.size ≤ g ∧ Row .u32 wx 40 g [y0, y1, y2, y3, y4, y5, y6, y7] ∧ Below w.heap.size w wx)
  case first =>
    go_region_with (first
      | (go_at_call 59
         (with_reducible refine (HFIRST.out _ ?_).mono ?_)
         · exact (Below.refl _ _).drew
         rintro _ w1 ⟨rfl, hb1⟩
         have HW1 : Hid (Below w.heap.size w w1) := Lib.hid ((Below.refl _ _).drew.trans (hb1.mono (Nat.le_refl _)))
         clear hb1)
      | (go_at_call 59
         (with_reducible refine (HFIRST.out _ ?_).mono ?_)
         · exact ((Below.refl _ _).alloc (Nat.le_refl _) _).drew
         rintro _ w1 ⟨rfl, hb1⟩
         have HW1 : Hid (Below w.heap.size w w1) := Lib.hid (((Below.refl _ _).alloc (Nat.le_refl _) _).drew.trans (hb1.mono (by simp)))
         have HZ1 : Hid (Row .u32 w1 40 w.heap.size [0, 0, 0, 0, 0, 0, 0, 0]) := Lib.hid ((Row.new w 40 [0, 0, 0, 0, 0, 0, 0, 0]).drew.below hb1 (by simp))
         clear hb1)
      | (go_at_call 59
         (with_reducible refine (HFIRST.out _ ?_).mono ?_)
         · exact ((Below.refl _ _).drew.alloc (Nat.le_refl _) _)
         rintro _ w1 ⟨rfl, hb1⟩
         have HW1 : Hid (Below w.heap.size w w1) := Lib.hid (((Below.refl _ _).drew.alloc (Nat.le_refl _) _).trans (hb1.mono (by simp)))
         have HZ1 : Hid (Row .u32 w1 40 w.heap.size [0, 0, 0, 0, 0, 0, 0, 0]) := Lib.hid ((Row.new w.drew 40 [0, 0, 0, 0, 0, 0, 0, 0]).below hb1 (by simp))
         clear hb1)
      | (go_at_call 58
         (with_reducible refine (HSTEP.out _ ?_).mono ?_)
         · exact HW1.out
         rintro _ w2 ⟨rfl, hb2⟩
         have HW2 : Hid (Below w.heap.size w w2) := Lib.hid (HW1.out.trans (hb2.mono HW1.out.size))
         have HZ2 : Hid (Row .u32 w2 40 w.heap.size [0, 0, 0, 0, 0, 0, 0, 0]) := Lib.hid (HZ1.out.below hb2 HZ1.out.lt)
         have q0 := HZ2.out.cell 0 (by simp)
         have q1 := HZ2.out.cell 1 (by simp)
         have q2 := HZ2.out.cell 2 (by simp)
         have q3 := HZ2.out.cell 3 (by simp)
         have q4 := HZ2.out.cell 4 (by simp)
         have q5 := HZ2.out.cell 5 (by simp)
         have q6 := HZ2.out.cell 6 (by simp)
         have q7 := HZ2.out.cell 7 (by simp)
         simp only [List.getElem_cons_zero, List.getElem_cons_succ] at q0 q1 q2 q3 q4 q5 q6 q7
         have qf := fun o => HZ2.out.frozen o
         clear hb2)
      | (go_at_call 58
         (with_reducible refine (HSTEP.out _ ?_).mono ?_)
         · exact HW1.out.alloc HW1.out.size _
         rintro _ w2 ⟨rfl, hb2⟩
         have HW2 : Hid (Below w.heap.size w w2) := Lib.hid ((HW1.out.alloc HW1.out.size _).trans (hb2.mono (by have := HW1.out.size; simp; omega)))
         have HZ2 : Hid (Row .u32 w2 40 w1.heap.size [0, 0, 0, 0, 0, 0, 0, 0]) := Lib.hid ((Row.new w1 40 [0, 0, 0, 0, 0, 0, 0, 0]).below hb2 (by simp))
         have q0 := HZ2.out.cell 0 (by simp)
         have q1 := HZ2.out.cell 1 (by simp)
         have q2 := HZ2.out.cell 2 (by simp)
         have q3 := HZ2.out.cell 3 (by simp)
         have q4 := HZ2.out.cell 4 (by simp)
         have q5 := HZ2.out.cell 5 (by simp)
         have q6 := HZ2.out.cell 6 (by simp)
         have q7 := HZ2.out.cell 7 (by simp)
         simp only [List.getElem_cons_zero, List.getElem_cons_succ] at q0 q1 q2 q3 q4 q5 q6 q7
         have qf := fun o => HZ2.out.frozen o
         clear hb2)
      | (go_at_call 58
         (with_reducible refine (HSTEP.out _ ?_).mono ?_)
         · exact HW1.out
         rintro _ w2 ⟨rfl, hb2⟩
         have HW2 : Hid (Below w.heap.size w w2) := Lib.hid (HW1.out.trans (hb2.mono HW1.out.size))
         clear hb2))
    · go_wp2_with fail
      go_meet
      exact ⟨w2.heap.size, rfl, HW2.out.size, Row.new w2 40 [y0, y1, y2, y3, y4, y5, y6, y7], HW2.out.alloc HW2.out.size _⟩
    · go_wp2_with fail
      go_meet
      exact ⟨w1.heap.size, rfl, HW1.out.size, ((((((((HZ2.out.set 0 y0).set 1 y1).set 2 y2).set 3 y3).set 4 y4).set 5 y5).set 6 y6).set 7 y7), ((((((((HW2.out.setCell HW1.out.size _).setCell HW1.out.size _).setCell HW1.out.size _).setCell HW1.out.size _).setCell HW1.out.size _).setCell HW1.out.size _).setCell HW1.out.size _).setCell HW1.out.size _)⟩
    · go_wp2_with fail
      go_meet
      exact ⟨w.heap.size, rfl, Nat.le_refl _, ((((((((HZ2.out.set 0 y0).set 1 y1).set 2 y2).set 3 y3).set 4 y4).set 5 y5).set 6 y6).set 7 y7), ((((((((HW2.out.setCell (Nat.le_refl _) _).setCell (Nat.le_refl _) _).setCell (Nat.le_refl _) _).setCell (Nat.le_refl _) _).setCell (Nat.le_refl _) _).setCell (Nat.le_refl _) _).setCell (Nat.le_refl _) _).setCell (Nat.le_refl _) _)⟩
  case rest =>
    obtain ⟨gv, rfl, hgv, hrv, hbv⟩ := hcut
    have HRV := Lib.hid hrv
    have HBV := Lib.hid hbv
    clear hrv hbv HSTEP HFIRST
    go_upto_region 3 with fail
    have hn2 := HNM.out
    obtain ⟨qn, hq1, hq2, hq3, hq4⟩ := whole_blocks n m r hr hn2
    obtain ⟨a2, hif⟩ : ∃ a2, (if cap = 64 * m then a else a.map (fun x => x.add (64 * m))) = a2 := ⟨_, rfl⟩
    have hwt : ∀ W, Below wc.heap.size wc W → Calls Tryd.prog 60 #[.slice a2 (n - 64 * m) (cap - 64 * m), .int .i64 n] W (WithTailPost W (bs.drop (64 * m)) n) := fun W hW => by
      rw [← hif]
      exact withTail_any _ (n - 64 * m) (cap - 64 * m) n (bs.drop (64 * m)) W ((HIN.out.below (HBV.out.trans (hW.mono HBV.out.size))).behind (64 * m) (by omega)) (by omega) hn
    have hrl : (bs.drop (64 * m)).length = r := by rw [List.length_drop, HIN.out.len]; omega
    obtain ⟨z0, z1, z2, z3, z4, z5, z6, z7, hz⟩ := list_8 (stepsL [y0, y1, y2, y3, y4, y5, y6, y7] (bs.drop (64 * m) ++ tailL n) qn) (stepsL_length rfl _ qn)
    have hyb : Words32 [y0, y1, y2, y3, y4, y5, y6, y7] := by
      rw [← HY.out]
      exact stepsL_bd hTab_bd _ _
    have hst : ∀ W g4 cap4, Below wc.heap.size wc W → W.ownsRow wc.heap.size 5 1 (.slice (some ⟨g4, 0, none⟩) (r + (nils n + 9)) cap4) (r + (nils n + 9)) ((bs.drop (64 * m) ++ tailL n).map (Value.int .u8)) →
        Calls Tryd.prog 58 #[.agg #[.int .u32 y0, .int .u32 y1, .int .u32 y2, .int .u32 y3, .int .u32 y4, .int .u32 y5, .int .u32 y6, .int .u32 y7], .slice (some ⟨g4, 0, none⟩) (r + (nils n + 9)) cap4] W
          (fun e w' => e = .returned (.agg #[.int .u32 z0, .int .u32 z1, .int .u32 z2, .int .u32 z3, .int .u32 z4, .int .u32 z5, .int .u32 z6, .int .u32 z7]) ∧ Below W.heap.size W w') := fun W g4 cap4 hW ho => by
      have hbW : Below w.heap.size w W := HBV.out.trans (hW.mono HBV.out.size)
      have h := steps_any (some ⟨g4, 0, none⟩) (r + (nils n + 9)) cap4 qn [y0, y1, y2, y3, y4, y5, y6, y7] (bs.drop (64 * m) ++ tailL n) W rfl hyb (InBytes.of_own ho (app_bytes (fun z h => HIN.out.bytes z (List.mem_of_mem_drop h)) (tailL_bytes n))) hq3 (HT.out.below hbW (Nat.le_refl _)).kl
      unfold StepsPost at h
      rw [hz] at h
      exact h
    have hfin : sumL bs = bytesL [z0, z1, z2, z3, z4, z5, z6, z7] := by
      rw [← hz, sumL_parts bs m qn r hr (by rw [HIN.out.len]; exact hn2) (by rw [HIN.out.len]; exact hq4), HIN.out.len, HY.out]
    have hzb : Words32 [z0, z1, z2, z3, z4, z5, z6, z7] := by
      rw [← hz]
      exact stepsL_bd hyb _ _
    have HWT := Lib.hid hwt
    have HST := Lib.hid hst
    have HFIN := Lib.hid hfin
    have HZB := Lib.hid hzb
    have HRL := Lib.hid hrl
    have p0 := HRV.out.cell 0 (by simp)
    have p1 := HRV.out.cell 1 (by simp)
    have p2 := HRV.out.cell 2 (by simp)
    have p3 := HRV.out.cell 3 (by simp)
    have p4 := HRV.out.cell 4 (by simp)
    have p5 := HRV.out.cell 5 (by simp)
    have p6 := HRV.out.cell 6 (by simp)
    have p7 := HRV.out.cell 7 (by simp)
    simp only [List.getElem_cons_zero, List.getElem_cons_succ] at p0 p1 p2 p3 p4 p5 p6 p7
    have k5 : 64 * m ≤ n := by omega
    clear hwt hst hfin hzb hyb hrl hz hn2 hq1 hq2 hq3 hq4
    go_cut [4] (fun s4 wx => s4 = .pointer (some ⟨gv, 0, none⟩) ∧ Row .u32 wx 40 gv [z0, z1, z2, z3, z4, z5, z6, z7] ∧ Below w.heap.size w wx)
    case first =>
      go_region_with (first
        | (go_at_call 60
           (with_reducible refine (HWT.out _ ?_).mono ?_)
           · exact (Below.refl _ _).drew
           rintro _ w3 ⟨g4, cap4, rfl, ho4, hb3⟩
           rw [HRL.out] at ho4
           rw [HRL.out]
           have HO4 := Lib.hid ho4
           have HRX : Hid (Row .u32 w3 40 gv [y0, y1, y2, y3, y4, y5, y6, y7]) := Lib.hid (HRV.out.drew.below hb3 HRV.out.lt)
           have HW3 : Hid (Below wc.heap.size wc w3) := Lib.hid ((Below.refl _ _).drew.trans (hb3.mono (Nat.le_refl _)))
           have q0 := HRX.out.cell 0 (by simp); have q1 := HRX.out.cell 1 (by simp); have q2 := HRX.out.cell 2 (by simp); have q3 := HRX.out.cell 3 (by simp); have q4 := HRX.out.cell 4 (by simp); have q5 := HRX.out.cell 5 (by simp); have q6 := HRX.out.cell 6 (by simp); have q7 := HRX.out.cell 7 (by simp)
           simp only [List.getElem_cons_zero, List.getElem_cons_succ] at q0 q1 q2 q3 q4 q5 q6 q7
           clear ho4 hb3)
        | (go_at_call 58
           (with_reducible refine (HST.out _ _ _ ?_ ?_).mono ?_)
           · exact HW3.out
           · exact HO4.out
           rintro _ w4 ⟨rfl, hb4⟩
           have HR4 : Hid (Row .u32 w4 40 gv [y0, y1, y2, y3, y4, y5, y6, y7]) := Lib.hid (HRX.out.below hb4 HRX.out.lt)
           have HW4 : Hid (Below w.heap.size w w4) := Lib.hid ((HBV.out.trans (HW3.out.mono HBV.out.size)).trans (hb4.mono (Nat.le_trans HBV.out.size HW3.out.size)))
           have t0 := HR4.out.cell 0 (by simp)
           have t1 := HR4.out.cell 1 (by simp)
           have t2 := HR4.out.cell 2 (by simp)
           have t3 := HR4.out.cell 3 (by simp)
           have t4 := HR4.out.cell 4 (by simp)
           have t5 := HR4.out.cell 5 (by simp)
           have t6 := HR4.out.cell 6 (by simp)
           have t7 := HR4.out.cell 7 (by simp)
           have tf := fun o => HR4.out.frozen o
           clear hb4))
      all_goals
        go_wp2_with fail
        go_meet
        exact ⟨rfl, ((((((((HR4.out.set 0 z0).set 1 z1).set 2 z2).set 3 z3).set 4 z4).set 5 z5).set 6 z6).set 7 z7), ((((((((HW4.out.setCell hgv _).setCell hgv _).setCell hgv _).setCell hgv _).setCell hgv _).setCell hgv _).setCell hgv _).setCell hgv _)⟩
    case rest =>
      obtain ⟨rfl, hrz, hbz⟩ := hcut
      have HRZ := Lib.hid hrz
      have HBZ := Lib.hid hbz
      clear hrz hbz HWT HST p0 p1 p2 p3 p4 p5 p6 p7 hif
      have hsb : ∀ W, Calls Tryd.prog 61 #[.agg #[.int .u32 z0, .int .u32 z1, .int .u32 z2, .int .u32 z3, .int .u32 z4, .int .u32 z5, .int .u32 z6, .int .u32 z7]] W (StateBytesPost W [z0, z1, z2, z3, z4, z5, z6, z7]) := fun W => stateBytes_any [z0, z1, z2, z3, z4, z5, z6, z7] W rfl HZB.out
      have HSBY := Lib.hid hsb
      clear hsb
      go_wp2_with (first
        | (refine wpList_load_ints rfl 40 (.tmp 4) rfl gv rfl 40 .u32 [z0, z1, z2, z3, z4, z5, z6, z7] HRZ.out 8 39 Tryd.underlying40 sizeA8 ?_)
        | (go_at_call 61
           refine (HSBY.out _).mono ?_
           rintro _ w6 ⟨rfl, hr6, hb6⟩
           have HR6 := Lib.hid hr6
           have HB6 := Lib.hid hb6
           clear hr6 hb6))
      go_ret
      refine ⟨_, ?_, rfl, ?_, HBZ.out.trans (HB6.out.mono HBZ.out.size)⟩
      · have := HBZ.out.size
        omega
      · rw [HFIN.out]
        exact HR6.out
end Go.Proofs.YtcplfpnaepdddaaDoor

/- Facts on a sum's bytes. -/
namespace Go.Proofs.YtcplfpnaepdddaaDoor
open Go.RowKit
set_option linter.unusedVariables false

theorem bytesL_at (s : List Int) (i : Nat) (h : i < 4 * s.length) : (bytesL s).getD i 0 = s.getD (i / 4) 0 / 2 ^ (24 - 8 * (i % 4)) % 256 := by
  induction s generalizing i with
  | nil => simp at h
  | cons x r ih =>
    have hb : bytesL (x :: r) = be4 x ++ bytesL r := by simp [bytesL]
    rw [hb]
    by_cases hi : i < 4
    · have hd : i / 4 = 0 := by omega
      have hm : i % 4 = i := by omega
      rw [hd, hm]
      have : i = 0 ∨ i = 1 ∨ i = 2 ∨ i = 3 := by omega
      rcases this with rfl | rfl | rfl | rfl <;> simp [be4]
    · obtain ⟨j, rfl⟩ : ∃ j, i = 4 + j := ⟨i - 4, by omega⟩
      have ih2 := ih j (by simp at h; omega)
      rw [show (4 + j) / 4 = j / 4 + 1 by omega, show (4 + j) % 4 = j % 4 by omega]
      simp only [List.getD, List.getElem?_cons_succ] at ih2 ⊢
      rw [← ih2]
      rw [List.getElem?_append_right (by simp [be4])]
      simp [be4]

theorem sumL_length (bs : List Int) : (sumL bs).length = 32 := by
  unfold sumL
  rw [bytesL_length, stepsL_length rfl]
theorem sumL_bytes (bs : List Int) : Bytes8 (sumL bs) := bytesL_bytes _
end Go.Proofs.YtcplfpnaepdddaaDoor
