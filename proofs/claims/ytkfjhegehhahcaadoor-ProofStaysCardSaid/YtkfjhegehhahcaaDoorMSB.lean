/- Contracts of the program's and of the document's small functions on 32 bit words. The contract of a round: the document's. Arrays of eight words: what == and an index answer. Contracts of putBig, tail and Tail. Contracts of word and spread. The contract of schedule. The contract of rounds. The contract of step. Contracts of First and Step. The contract of steps. Contracts of withTail and stateBytes. The contract of stateBytes. The contract of Sum. Facts on a sum's bytes. The digest of a tree, as a function. No program is named here. The contracts of the program's Number and Bytes. The contracts of the program's preimages. The contract of the program's digest. The contracts of the program's digests of a tree's parts. The contracts of the program's trees: Digest. The contract of bytes.Clone. AVL trees: what the document says of them, as functions, and that they stay balanced. No program is named here. The order of strings is the order of keys. No program is named here. Rows of trees in one's own memory. No program is named here. -/
import Derived.Test.YtkfjhegehhahcaaDoorProg
import Derived.Test.YtkfjhegehhahcaaDoorMSA
import Derived.WalkKit
import Derived.WalkLawsBesides
import Derived.WalkSpells
import Derived.Outline
import Derived.Lib.Hide
import Derived.Deep.QuietTactic
import Derived.BigQuiet
import Derived.Below
import Derived.ChangeKeysEq
import Derived.LoopTactic
import Derived.Deep.RegionHeld3
import Derived.IntWalk
import Derived.OwnWalk
import Derived.Deep.AppendLies
import Derived.Deep.DeepCutAuto
import Derived.Deep.RegionWith
import Derived.Test.YtkfjhegehhahcaaDoorPrLen
import Derived.Lib.SliceRun
/- Contracts of the program's and of the document's small functions on 32 bit words. The contract of a round: the document's. Arrays of eight words: what == and an index answer. Contracts of putBig, tail and Tail. Contracts of word and spread. The contract of schedule. The contract of rounds. The contract of step. Contracts of First and Step. The contract of steps. Contracts of withTail and stateBytes. The contract of stateBytes. The contract of Sum. Facts on a sum's bytes. -/
/- Contracts of the program's and of the document's small functions on 32 bit words. -/
namespace Go.Proofs.YtkfjhegehhahcaaDoor
open Go.RowKit
set_option linter.unusedVariables false

theorem rot_any (x k : Int) (w : World) (hx : 0 ≤ x) (hx2 : x ≤ 4294967295) (hk : 1 ≤ k) (hk2 : k ≤ 31) :
    Calls Tryd.prog 98 #[.int .u32 x, .int .i64 (-k)] w fun e w' => e = .returned (.int .u32 (rotr x k)) ∧ w = w' := by
  have hm := mask_neg k hk hk2
  go_enter Tryd.func98, Tryd.ntmps98
  go_wp2
  go_ret
  exact ⟨ret_int (rotr_other x k), rfl⟩

theorem turn_any (x k : Int) (w : World) (hx : 0 ≤ x) (hx2 : x ≤ 4294967295) (hk : 1 ≤ k) (hk2 : k ≤ 31) :
    Calls Tryd.prog 89 #[.int .u32 x, .int .i64 k] w fun e w' => e = .returned (.int .u32 (rotr x k)) ∧ ∃ n, w' = w.drewN n := by
  go_enter Tryd.func89, Tryd.ntmps89
  go_wp2
  go_quiet (fail)
  go_wp2
  go_ret
  exact ⟨rfl, _, rfl⟩

theorem rots_any (x i j k : Int) (w : World) (hx : 0 ≤ x) (hx2 : x ≤ 4294967295) (hi : 1 ≤ i) (hi2 : i ≤ 31) (hj : 1 ≤ j) (hj2 : j ≤ 31) (hk : 1 ≤ k) (hk2 : k ≤ 31) :
    Calls Tryd.prog 99 #[.int .u32 x, .int .i64 i, .int .i64 j, .int .i64 k] w fun e w' => e = .returned (.int .u32 (rot3 x i j k)) ∧ w = w' := by
  go_enter Tryd.func99, Tryd.ntmps99
  go_wp2_with (go_at_call 98; (with_reducible refine (rot_any _ _ _ hx hx2 (by omega) (by omega)).mono ?_); rintro e w' ⟨rfl, rfl⟩)
  go_ret
  exact ⟨rfl, rfl⟩

theorem low_any (e f g z k v : Int) (w : World) (he : 0 ≤ e) (he2 : e ≤ 4294967295) (hh : 0 ≤ z) (hh2 : z ≤ 4294967295) (hk : 0 ≤ k) (hk2 : k ≤ 4294967295) (hv : 0 ≤ v) (hv2 : v ≤ 4294967295) :
    Calls Tryd.prog 96 #[.int .u32 e, .int .u32 f, .int .u32 g, .int .u32 z, .int .u32 k, .int .u32 v] w fun e' w' => e' = .returned (.int .u32 (lowS e f g z k v)) ∧ w = w' := by
  have hr := rot3_bd e 6 11 25
  have hq := bits_bd .xor (bits .and .u32 e f) (bits .and .u32 (bits .xor .u32 IntKind.u32.max e) g)
  go_enter Tryd.func96, Tryd.ntmps96
  go_wp2_with (go_at_call 99; (with_reducible refine (rots_any _ _ _ _ _ he he2 (by omega) (by omega) (by omega) (by omega) (by omega) (by omega)).mono ?_); rintro e' w' ⟨rfl, rfl⟩)
  go_ret
  exact ⟨rfl, rfl⟩

theorem up_any (a b c : Int) (w : World) (he : 0 ≤ a) (he2 : a ≤ 4294967295) :
    Calls Tryd.prog 97 #[.int .u32 a, .int .u32 b, .int .u32 c] w fun e' w' => e' = .returned (.int .u32 (upS a b c)) ∧ w = w' := by
  have hr := rot3_bd a 2 13 22
  have hq := bits_bd .xor (bits .xor .u32 (bits .and .u32 a b) (bits .and .u32 a c)) (bits .and .u32 b c)
  go_enter Tryd.func97, Tryd.ntmps97
  go_wp2_with (go_at_call 99; (with_reducible refine (rots_any _ _ _ _ _ he he2 (by omega) (by omega) (by omega) (by omega) (by omega) (by omega)).mono ?_); rintro e' w' ⟨rfl, rfl⟩)
  go_ret
  exact ⟨rfl, rfl⟩
end Go.Proofs.YtkfjhegehhahcaaDoor

/- The contract of a round: the document's. -/
namespace Go.Proofs.YtkfjhegehhahcaaDoor
open Go.RowKit
set_option linter.unusedVariables false

theorem quiet_add {P : Program} {f : FuncId} {args : Array Value} {w : World} {a n : Nat} {v : Value}
    (h : Calls P f args (w.drewN (a + n)) fun e w' => e = .returned v ∧ ∃ m, w' = (w.drewN (a + n)).drewN m) :
    Calls P f args (w.drewN (a + n)) fun e w'' => e = .returned v ∧ ∃ m, w'' = w.drewN (a + m) :=
  h.mono fun _ _ ⟨he, m, hm⟩ => ⟨he, n + m, by rw [hm, World.drewN_drewN, Nat.add_assoc]⟩

set_option maxHeartbeats 1000000 in
theorem refRound_any (a b c d e f g z k v : Int) (w : World)
    (ha : 0 ≤ a) (ha2 : a ≤ 4294967295) (hd : 0 ≤ d) (hd2 : d ≤ 4294967295) (he : 0 ≤ e) (he2 : e ≤ 4294967295)
    (hh : 0 ≤ z) (hh2 : z ≤ 4294967295) (hk : 0 ≤ k) (hk2 : k ≤ 4294967295) (hv : 0 ≤ v) (hv2 : v ≤ 4294967295) :
    Calls Tryd.prog 83 #[agg8 a b c d e f g z, .int .u32 k, .int .u32 v] w fun r w' => r = .returned (rndV a b c d e f g z k v) ∧ Below w.heap.size w w' := by
  unfold agg8
  go_enter Tryd.func83, Tryd.ntmps83
  go_wp2
  go_quiet ((go_at_call 89; exact Calls.quiet_of (turn_any _ _ _ he he2 (by omega) (by omega))))
  go_wp2
  go_quiet ((go_at_call 89; exact quiet_add (turn_any _ _ _ ha ha2 (by omega) (by omega))))
  go_wp2
  refine bodyPost_ret (v := rndV a b c d e f g z k v) (by simp [results, Tryd.results83, go_sem, rndV, agg8, lowS, upS, rot3]) rfl ⟨rfl, ?_⟩
  have h2 : Below w.heap.size w ((w.alloc (.cells #[.int .u32 a, .int .u32 b, .int .u32 c, .int .u32 d, .int .u32 e, .int .u32 f, .int .u32 g, .int .u32 z] 40)).alloc (.cells #[.int .u32 0, .int .u32 0, .int .u32 0, .int .u32 0, .int .u32 0, .int .u32 0, .int .u32 0, .int .u32 0] 40)) :=
    ((Below.refl _ _).alloc (Nat.le_refl _) _).alloc (by simp) _
  exact (((((((((below_drewN h2 _).setCell (by simp) _).setCell (by simp) _).setCell (by simp) _).setCell (by simp) _).setCell (by simp) _).setCell (by simp) _).setCell (by simp) _).setCell (by simp) _)
end Go.Proofs.YtkfjhegehhahcaaDoor

/- Arrays of eight words: what == and an index answer. -/
namespace Go.Proofs.YtkfjhegehhahcaaDoor
open Go.RowKit
set_option linter.unusedVariables false

theorem infoU32 : (Tryd.prog.info? 39).map (fun i => (i.zero, i.size, i.bytes)) = some (some (.int .u32 0), 1, 4) := by kernel_rfl
theorem cellsU32 : Tryd.prog.cellsOf 39 = 1 := by kernel_rfl
theorem run_equal8 (a b c d e f g h : Int) (n : Nat) (w : World) : (Op.equalIn (n + 2) 40 (agg8 a b c d e f g h) (agg8 a b c d e f g h)).run Tryd.prog w = .ok true w := by
  obtain ⟨i0, hi0, hz0, hz1, hz2⟩ := info_parts infoU32
  have he := fun (x y : Int) (w : World) => run_equalIn_int w n 39 .u32 .u32 x y Tryd.underlying39
  unfold agg8
  rw [run_equalIn_array w (n + 1) _ _ Tryd.underlying40 hi0, cellsU32]
  simp [Op.eqItems, List.range, List.range.loop, part, sizeOf, typeInfo, hi0, hz1, he]
theorem run_eql_agg8 (a b c d e f g h : Int) (w : World) : (binOp .eql 40 (agg8 a b c d e f g h) (agg8 a b c d e f g h)).run Tryd.prog w = .ok (.bool true) w := by
  have h1 := run_equal8 a b c d e f g h 9998 w
  unfold agg8 at h1 ⊢
  rw [run_eql_struct, h1]
  simp
theorem run_index8 (a b c d e f g h : Int) (w : World) : (Instr.index 40 (agg8 a b c d e f g h) (.int .i64 0)).run Tryd.prog w = .ok (.int .u32 a) w := by
  unfold agg8
  kernel_rfl
theorem bcell {W w1 : World} (hb : Below W.heap.size W w1) : (∀ b o, b < W.heap.size → w1.cell? ⟨b, o, none⟩ = W.cell? ⟨b, o, none⟩) ∧ (∀ b o, b < W.heap.size → w1.frozen? ⟨b, o, none⟩ = W.frozen? ⟨b, o, none⟩) :=
  ⟨fun b o h => hb.cell (p := ⟨b, o, none⟩) h, fun b o h => hb.frozen (p := ⟨b, o, none⟩) h⟩
end Go.Proofs.YtkfjhegehhahcaaDoor

/- Contracts of putBig, tail and Tail. -/
namespace Go.Proofs.YtkfjhegehhahcaaDoor
open Go.RowKit
set_option linter.unusedVariables false

def PutPost (w : World) (g off n : Nat) (zs : List Int) (x : Int) (e : Ending) (w' : World) : Prop :=
  e = .returned (.tuple #[]) ∧ Row .u8 w' 5 g (putB zs off n x n) ∧ w'.heap.size = w.heap.size ∧ w.grownBy w' (some g)

set_option maxHeartbeats 1000000 in
theorem putBig_any (g off n cap : Nat) (zs : List Int) (x : Int) (w : World) (hr : Row .u8 w 5 g zs) (hl : off + n ≤ zs.length) (hn : n ≤ 8) (hx : 0 ≤ x) (hx2 : x ≤ 18446744073709551615) :
    Calls Tryd.prog 87 #[.slice (some ⟨g, off, none⟩) n cap, .int .u64 x] w (PutPost w g off n zs x) := by
  have HR := Lib.hid hr
  clear hr
  go_enter Tryd.func87, Tryd.ntmps87
  go_wp2
  go_loopw [7] (fun i wx => ∃ k : Nat, k ≤ n ∧ i = .int .i64 k ∧ Row .u8 wx 5 g (putB zs off n x k) ∧ wx.heap.size = w.heap.size ∧ w.grownBy wx (some g)) (fun i _ => n - (intOf i).toNat)
  case atStart => exact ⟨0, Nat.zero_le _, rfl, HR.out, rfl, only_refl _ _⟩
  case round =>
    obtain ⟨k, hk, rfl, hr, hs, hg⟩ := hrel
    have hlen := putB_length zs off n x k
    have hf := hr.frozen (off + k)
    have HR2 := Lib.hid hr
    have HS := Lib.hid hs
    have HL := Lib.hid hlen
    by_cases hlt : k < n
    · obtain ⟨z0, hc⟩ := hr.has (off + k) (by omega)
      have HG := Lib.hid hg
      clear hr hs hlen hg
      go_wp2
      go_roundw
      case rel => exact ⟨k + 1, by omega, by go_num, HR2.out.set _ _, by simpa [World.setCell] using HS.out, only_set HG.out _ _⟩
      case measure => simp [intOf]; omega
    · obtain rfl : k = n := by omega
      clear hr hs hlen hf
      go_wp2
      go_end0
      exact ⟨rfl, HR2.out, HS.out, hg⟩

def TailPost (w : World) (n : Nat) (e : Ending) (w' : World) : Prop :=
  e = .returned (.slice (some ⟨w.heap.size, 0, none⟩) (nils n + 9) (nils n + 9)) ∧ Row .u8 w' 5 w.heap.size (tailL n) ∧ Below w.heap.size w w' ∧ w'.heap.size = w.heap.size + 1


set_option maxHeartbeats 1000000 in
theorem tail_any (n : Nat) (w : World) (hn : (n : Int) ≤ 1125899906842624) :
    Calls Tryd.prog 86 #[.int .i64 n] w (TailPost w n) := by
  obtain ⟨i0, hi0, hz0, hz1, hz2⟩ := info_parts infoU8
  have hnl := nils_lt n
  have hnz : (128 - ((n : Int) % 64 + 1 + 8)) % 64 = (nils n : Int) := by unfold nils; omega
  go_enter Tryd.func86, Tryd.ntmps86
  go_wp2_with (at_make; refine wpList_make_ints w rfl (.tmp 15) (.tmp 15) 22 rfl 5 i0 .u8 Tryd.underlying22 hi0 hz0 hz1 .i64 .i64 _ _ (nils n + 9) rfl rfl (by push_cast; omega) (by push_cast; omega) (by rw [hz2]; omega) (by simp only [maxLen]; omega) ?_; intro w1 hr1 hb1 hs1; obtain ⟨z0, hc0⟩ := hr1.has 0 (by simp); have hf0 := hr1.frozen 0; have HR1 := Lib.hid hr1; have HS1 := Lib.hid hs1; clear hr1 hs1)
  rw [show nils n + 9 - (1 + nils n) = 8 by omega]
  refine (putBig_any w.heap.size (1 + nils n) 8 8 ((List.replicate (nils n + 9) (0 : Int)).set 0 128) (8 * n) _ (HR1.out.set 0 128) (by simp; omega) (by omega) (by omega) (by omega)).mono ?_
  rintro e w2 ⟨rfl, hr2, hs2, hg2⟩
  rw [set_first, putB_tail] at hr2
  have hb2 : Below w.heap.size w w2 := below_only (hb1.setCell (Nat.le_refl _) _) hg2 (by simp [World.setCell, HS1.out]) (Nat.le_refl _)
  have hs3 : w2.heap.size = w.heap.size + 1 := by rw [hs2]; simp [World.setCell, HS1.out]
  have H := Lib.hid (And.intro hr2 (And.intro hb2 hs3))
  clear hr2 hs2 hg2 hb2 hs3
  go_wp2
  go_ret
  exact ⟨rfl, H.out⟩
end Go.Proofs.YtkfjhegehhahcaaDoor

/- Contracts of word and spread. -/
namespace Go.Proofs.YtkfjhegehhahcaaDoor
open Go.RowKit
set_option linter.unusedVariables false

theorem word_any (g off n cap : Nat) (a b c d : Int) (w : World) (hn : 4 ≤ n)
    (h0 : w.cell? ⟨g, off, none⟩ = some (.int .u8 a)) (h1 : w.cell? ⟨g, off + 1, none⟩ = some (.int .u8 b)) (h2 : w.cell? ⟨g, off + 2, none⟩ = some (.int .u8 c)) (h3 : w.cell? ⟨g, off + 3, none⟩ = some (.int .u8 d))
    (ha : 0 ≤ a) (ha2 : a ≤ 255) (hb : 0 ≤ b) (hb2 : b ≤ 255) (hc : 0 ≤ c) (hc2 : c ≤ 255) (hd : 0 ≤ d) (hd2 : d ≤ 255) :
    Calls Tryd.prog 94 #[.slice (some ⟨g, off, none⟩) n cap] w fun e w' => e = .returned (.int .u32 (wordOf a b c d)) ∧ ∃ m, w' = w.drewN m := by
  have i0 : (0 : Int) < (n : Int) := by omega
  have i1 : (1 : Int) < (n : Int) := by omega
  have i2 : (2 : Int) < (n : Int) := by omega
  have i3 : (3 : Int) < (n : Int) := by omega
  go_enter Tryd.func94, Tryd.ntmps94
  go_wp2
  go_quiet (fail)
  go_wp2
  go_ret
  exact ⟨ret_int (or_bytes a b c d ha ha2 hb hb2 hc hc2 hd hd2), _, rfl⟩

theorem spread_any (x i j s : Int) (w : World) (hx : 0 ≤ x) (hx2 : x ≤ 4294967295) (hi : 1 ≤ i) (hi2 : i ≤ 31) (hj : 1 ≤ j) (hj2 : j ≤ 31) (hs : 0 ≤ s) (hs2 : s ≤ 31) :
    Calls Tryd.prog 95 #[.int .u32 x, .int .i64 i, .int .i64 j, .int .i64 s] w fun e w' => e = .returned (.int .u32 (sp3 x i j s)) ∧ ∃ m, w' = w.drewN m := by
  have h1 := fun W => rot_any x i W hx hx2 hi hi2
  have h2 := fun W => rot_any x j W hx hx2 hj hj2
  have H1 := Lib.hid h1
  have H2 := Lib.hid h2
  clear h1 h2
  go_enter Tryd.func95, Tryd.ntmps95
  go_wp2
  go_quiet (first
    | (go_at_call 98; exact (rot_any _ _ _ hx hx2 (by omega) (by omega)).mono fun _ _ ⟨a, b⟩ => ⟨a, _, b.symm⟩))
  go_wp2
  go_ret
  exact ⟨rfl, _, rfl⟩
end Go.Proofs.YtkfjhegehhahcaaDoor

/- The contract of schedule. -/
namespace Go.Proofs.YtkfjhegehhahcaaDoor
open Go.RowKit
set_option linter.unusedVariables false

def SchedPost (w : World) (bs : List Int) (e : Ending) (w' : World) : Prop :=
  e = .returned (.agg ((sched bs).map (Value.int .u32)).toArray) ∧ Below w.heap.size w w' ∧ w'.heap.size = w.heap.size + 2

theorem size64 : (Tryd.prog.info? 99).map (·.size) = some 64 := by kernel_rfl

set_option maxRecDepth 100000 in
set_option maxHeartbeats 2000000 in
theorem sched_any (g off cap : Nat) (bs : List Int) (w : World) (hl : bs.length = 64) (hb8 : Bytes8 bs) (hseg : Seg .u8 w g off bs) (hcap : 64 ≤ cap) (hg : g < w.heap.size) :
    Calls Tryd.prog 91 #[.slice (some ⟨g, off, none⟩) 64 cap] w (SchedPost w bs) := by
  have HL := Lib.hid hl
  have HB8 := Lib.hid hb8
  have HSEG := Lib.hid hseg
  clear hl hb8 hseg
  go_enter Tryd.func91, Tryd.ntmps91
  go_wp2_with fail
  go_loopw [6] (fun i wx => ∃ k : Nat, k ≤ 16 ∧ i = .int .i64 k ∧ Row .u32 wx 99 (w.heap.size + 1) (first16 bs k ++ List.replicate (64 - k) 0) ∧ Row .u32 wx 99 w.heap.size (List.replicate 64 0) ∧ Below w.heap.size w wx ∧ wx.heap.size = w.heap.size + 2) (fun i _ => 16 - (intOf i).toNat)
  case atStart =>
    refine ⟨0, by omega, rfl, ?_, ?_, ?_, by simp⟩
    · have h := heap_alloc2_new w (.cells ((List.replicate 64 (0 : Int)).map (Value.int .u32)).toArray 99) (.cells ((List.replicate 64 (0 : Int)).map (Value.int .u32)).toArray 99)
      exact h
    · have h := heap_alloc2_old w (.cells ((List.replicate 64 (0 : Int)).map (Value.int .u32)).toArray 99) (.cells ((List.replicate 64 (0 : Int)).map (Value.int .u32)).toArray 99)
      exact h
    · exact ((Below.refl _ _).alloc (Nat.le_refl _) _).alloc (by simp) _
  case round =>
    obtain ⟨k, hk, rfl, hr, hr0, hb, hs⟩ := hrel
    have HR := Lib.hid hr
    have HR0 := Lib.hid hr0
    have HB := Lib.hid hb
    have HS := Lib.hid hs
    clear hr hr0 hb hs
    by_cases hlt : k < 16
    · have hsg : Seg .u8 wr g off bs := HSEG.out.below HB.out hg
      have hl := HL.out
      have c0 := hsg.cellD (4 * k) (by omega)
      have c1 := hsg.cellD (4 * k + 1) (by omega)
      have c2 := hsg.cellD (4 * k + 2) (by omega)
      have c3 := hsg.cellD (4 * k + 3) (by omega)
      have hw := fun W (hW : wr = W) => word_any g (off + 4 * k) (64 - 4 * k) (cap - 4 * k) _ _ _ _ wr (by omega) c0 c1 c2 c3 (byte_at HB8.out _).1 (byte_at HB8.out _).2 (byte_at HB8.out _).1 (byte_at HB8.out _).2 (byte_at HB8.out _).1 (byte_at HB8.out _).2 (byte_at HB8.out _).1 (byte_at HB8.out _).2
      have HW := Lib.hid (hw wr rfl)
      have hlen : (first16 bs k ++ List.replicate (64 - k) (0 : Int)).length = 64 := by simp [first16_length]; omega
      have HLEN := Lib.hid hlen
      obtain ⟨z0, hc⟩ := HR.out.has k (by omega)
      have hf := HR.out.frozen k
      clear hsg hl c0 c1 c2 c3 hw hlen
      go_wp2_with fail
      refine HW.out.mono ?_
      rintro e w' ⟨rfl, m, rfl⟩
      go_wp2_with fail
      go_roundw
      case rel =>
        refine ⟨k + 1, by omega, by go_num, ?_, HR0.out.far (by simp) _, ?_, ?_⟩
        · have h := (HR.out.drewN m).set k (wordAt bs k)
          have e := set_at (first16 bs k) (63 - k) (wordAt bs k)
          rw [first16_length, show 63 - k + 1 = 64 - k by omega, ← first16_succ] at e
          rw [e, show 63 - k = 64 - (k + 1) by omega] at h
          exact h
        · exact (below_drewN HB.out m).setCell (by simp) _
        · simpa [World.setCell] using HS.out
      case measure => simp [intOf]; omega
    · obtain rfl : k = 16 := by omega
      rw [show ((16 : Nat) : Int) = 16 from rfl]
      go_wp2_with fail
      go_loopw [5] (fun i wx => ∃ n : Nat, 16 ≤ n ∧ n ≤ 64 ∧ i = .int .i64 n ∧ Row .u32 wx 99 (w.heap.size + 1) (extW (first16 bs 16) (n - 16) ++ List.replicate (64 - n) 0) ∧ Row .u32 wx 99 w.heap.size (List.replicate 64 0) ∧ Below w.heap.size w wx ∧ wx.heap.size = w.heap.size + 2) (fun i _ => 64 - (intOf i).toNat)
      case atStart => exact ⟨16, by omega, by omega, rfl, HR.out, HR0.out, HB.out, HS.out⟩
      case round =>
        obtain ⟨n, hn, hn2, rfl, hr, hr0, hb, hs⟩ := hrel
        clear HR HR0 HB HS
        have HR := Lib.hid hr
        have HR0 := Lib.hid hr0
        have HB := Lib.hid hb
        have HS := Lib.hid hs
        clear hr hr0 hb hs
        by_cases hlt : n < 64
        · have hlm : (extW (first16 bs 16) (n - 16)).length = n := by rw [extW_length, first16_length]; omega
          have hlen : (extW (first16 bs 16) (n - 16) ++ List.replicate (64 - n) (0 : Int)).length = 64 := by simp [hlm]; omega
          have hbd := extW_bd (first16_bd HB8.out 16) (n - 16)
          have cell : ∀ j, 2 ≤ j → j ≤ 16 → wr.cell? ⟨w.heap.size + 1, n - j, none⟩ = some (.int .u32 ((extW (first16 bs 16) (n - 16)).getD (n - j) 0)) := fun j h1 h2 => by
            rw [HR.out.cellD (n - j) (by omega), getD_app _ _ _ (by omega)]
          have c16 := cell 16 (by omega) (by omega)
          have c15 := cell 15 (by omega) (by omega)
          have c7 := cell 7 (by omega) (by omega)
          have c2 := cell 2 (by omega) (by omega)
          obtain ⟨z0, hc⟩ := HR.out.has n (by omega)
          have hf := HR.out.frozen n
          have b16 := word_at hbd (n - 16)
          have b15 := word_at hbd (n - 15)
          have b7 := word_at hbd (n - 7)
          have b2 := word_at hbd (n - 2)
          have hnext : nextW (extW (first16 bs 16) (n - 16)) = ((extW (first16 bs 16) (n - 16)).getD (n - 16) 0 + sp3 ((extW (first16 bs 16) (n - 16)).getD (n - 15) 0) 7 18 3 + (extW (first16 bs 16) (n - 16)).getD (n - 7) 0 + sp3 ((extW (first16 bs 16) (n - 16)).getD (n - 2) 0) 17 19 10) % 4294967296 := by
            unfold nextW; rw [hlm]
          generalize (extW (first16 bs 16) (n - 16)).getD (n - 16) 0 = x16 at *
          generalize (extW (first16 bs 16) (n - 16)).getD (n - 15) 0 = x15 at *
          generalize (extW (first16 bs 16) (n - 16)).getD (n - 7) 0 = x7 at *
          generalize (extW (first16 bs 16) (n - 16)).getD (n - 2) 0 = x2 at *
          have HN := Lib.hid hnext
          have hst : ∀ q, Row .u32 ((wr.drewN q).setCell ⟨w.heap.size + 1, n, none⟩ (.int .u32 (nextW (extW (first16 bs 16) (n - 16))))) 99 (w.heap.size + 1) (extW (first16 bs 16) (n + 1 - 16) ++ List.replicate (64 - (n + 1)) 0) := fun q => by
            have h := (HR.out.drewN q).set n (nextW (extW (first16 bs 16) (n - 16)))
            have e := set_at (extW (first16 bs 16) (n - 16)) (63 - n) (nextW (extW (first16 bs 16) (n - 16)))
            rw [hlm, show 63 - n + 1 = 64 - n by omega] at e
            rw [e, show 63 - n = 64 - (n + 1) by omega] at h
            rw [show n + 1 - 16 = (n - 16) + 1 by omega]
            exact h
          have HST := Lib.hid hst
          clear hst
          have HLM := Lib.hid hlm
          have s15 := sp3_bd x15 7 18 3
          have s2 := sp3_bd x2 17 19 10
          clear hlm hlen hbd cell hnext
          go_wp2_with fail
          have wr16 : IntKind.i64.wrap ((n : Int) - 16) = (n : Int) - 16 := IntWalk.i64_in _ (by omega)
          have nn16 : (0 : Int) ≤ (n : Int) - 16 := by omega
          have ni16 : (16 : Int) ≤ (n : Int) := by omega
          have ub16 : (n : Int) - 16 < 64 := by omega
          have tn16 : ((n : Int) - 16).toNat = n - 16 := by omega
          have wr15 : IntKind.i64.wrap ((n : Int) - 15) = (n : Int) - 15 := IntWalk.i64_in _ (by omega)
          have nn15 : (0 : Int) ≤ (n : Int) - 15 := by omega
          have ni15 : (15 : Int) ≤ (n : Int) := by omega
          have ub15 : (n : Int) - 15 < 64 := by omega
          have tn15 : ((n : Int) - 15).toNat = n - 15 := by omega
          have wr7 : IntKind.i64.wrap ((n : Int) - 7) = (n : Int) - 7 := IntWalk.i64_in _ (by omega)
          have nn7 : (0 : Int) ≤ (n : Int) - 7 := by omega
          have ni7 : (7 : Int) ≤ (n : Int) := by omega
          have ub7 : (n : Int) - 7 < 64 := by omega
          have tn7 : ((n : Int) - 7).toNat = n - 7 := by omega
          have wr2 : IntKind.i64.wrap ((n : Int) - 2) = (n : Int) - 2 := IntWalk.i64_in _ (by omega)
          have nn2 : (0 : Int) ≤ (n : Int) - 2 := by omega
          have ni2 : (2 : Int) ≤ (n : Int) := by omega
          have ub2 : (n : Int) - 2 < 64 := by omega
          have tn2 : ((n : Int) - 2).toNat = n - 2 := by omega
          have nn0 : (0 : Int) ≤ (n : Int) := by omega
          have ub0 : (n : Int) < 64 := by omega
          go_region_held3 (fun w' => w'.cell? ⟨w.heap.size + 1, n - 16, none⟩ = some (.int .u32 x16) ∧ w'.cell? ⟨w.heap.size + 1, n - 15, none⟩ = some (.int .u32 x15) ∧ w'.cell? ⟨w.heap.size + 1, n - 7, none⟩ = some (.int .u32 x7) ∧ w'.cell? ⟨w.heap.size + 1, n - 2, none⟩ = some (.int .u32 x2))
            (first
              | (go_keep; done)
              | (refine ⟨?_, ?_, ?_, ?_⟩ <;> (rw [World.cell?_setCell_other _ _ _ _ (by first | (simp; done) | (simp; omega))]; simp [*]; done)))
            (first
              | (go_at_call 95; (with_reducible refine (spread_any _ _ _ _ _ (by omega) (by omega) (by omega) (by omega) (by omega) (by omega) (by omega) (by omega)).mono ?_); rintro _ wx ⟨rfl, mx, rfl⟩))
          clear wr16 nn16 ni16 ub16 tn16 wr15 nn15 ni15 ub15 tn15 wr7 nn7 ni7 ub7 tn7 wr2 nn2 ni2 ub2 tn2 nn0 ub0 c16 c15 c7 c2 b16 b15 b7 b2 s15 s2
          go_wp2_with fail
          go_roundw
          case rel =>
            refine ⟨n + 1, by omega, by omega, by go_num, ?_, ?_, ?_, ?_⟩
            · rw [mod_sum, ← HN.out]
              exact HST.out _
            · exact (HR0.out.drewN _).far (by simp) _
            · exact (below_drewN HB.out _).setCell (by simp) _
            · simpa [World.setCell] using HS.out
          case measure => simp [intOf]; omega
        · obtain rfl : n = 64 := by omega
          have hr64 : Row .u32 wr 99 (w.heap.size + 1) (sched bs) := by
            have h := HR.out
            simp only [Nat.sub_self, List.replicate_zero, List.append_nil] at h
            exact h
          have hl64 := sched_length bs
          have HR64 := Lib.hid hr64
          have hi64 : (Tryd.prog.info? 99).map (·.size) = some (sched bs).length := by rw [hl64]; exact size64
          have HI64 := Lib.hid hi64
          have HL64 := Lib.hid hl64
          clear hr64 hi64 hl64
          go_wp2_with (first
            | (refine wpList_load_ints rfl 99 (.tmp 3) rfl (w.heap.size + 1) rfl 99 .u32 (sched bs) HR64.out 64 39 Tryd.underlying99 HI64.out ?_)
            | (refine wpList_store_ints rfl 99 (.tmp 2) (.tmp 44) rfl w.heap.size .u32 (sched bs) rfl rfl 99 (List.replicate 64 0) HR0.out HI64.out (by rw [HL64.out]; simp) ?_
               intro w5 hr5 hg5 hs5
               have HR5 := Lib.hid hr5
               have HG5 := Lib.hid hg5
               have HS5 := Lib.hid hs5
               clear hr5 hg5 hs5))
          refine bodyPost_ret (v := .agg ((sched bs).map (Value.int .u32)).toArray) (results_cell_row Tryd.results91 _ _ w.heap.size 99 _ _ _ rfl HR5.out Tryd.underlying99 rfl (by rw [ints_size]; exact HI64.out)) rfl ⟨rfl, ?_, ?_⟩
          · exact below_only HB.out HG5.out (by rw [HS.out]; omega) (Nat.le_refl _)
          · rw [HS5.out, HS.out]
end Go.Proofs.YtkfjhegehhahcaaDoor

/- The contract of rounds. -/
namespace Go.Proofs.YtkfjhegehhahcaaDoor
open Go.RowKit
set_option linter.unusedVariables false

/-- The table of constants lies where the program has it. -/
structure KLies (w : World) : Prop where
  seg : Seg .u32 w 2 0 kTab
  lt : 2 < w.heap.size
theorem KLies.below {w w' : World} (h : KLies w) {B : Nat} (hb : Below B w w') (hB : 2 < B) : KLies w' := ⟨h.seg.below hb hB, Nat.lt_of_lt_of_le h.lt hb.size⟩

theorem infoW : (Tryd.prog.info? 39).map (fun i => (i.zero, i.size, i.bytes)) = some (some (.int .u32 0), 1, 4) := by kernel_rfl
theorem sizeA8 : (Tryd.prog.info? 40).map (·.size) = some 8 := by kernel_rfl
theorem sizeA64 : (Tryd.prog.info? 99).map (·.size) = some 64 := by kernel_rfl
theorem run_index_ints (t : TypeId) (zs : List Int) (ht : Tryd.prog.underlying t = some (.array zs.length 39)) (i : Nat) (hi : i < zs.length) (w : World) :
    (Instr.index t (.agg (zs.map (Value.int .u32)).toArray) (.int .i64 i)).run Tryd.prog w = .ok (.int .u32 (zs.getD i 0)) w := by
  obtain ⟨i0, hi0, hz0, hz1, hz2⟩ := info_parts infoW
  simp [Instr.index, asIntOf, run_underlying ht, sizeOf, typeInfo, hi0, hz1, part, hi, List.getD]

def RoundsPost (w : World) (ws s : List Int) (e : Ending) (w' : World) : Prop :=
  e = .returned (stV (rnds ws s 64)) ∧ Below w.heap.size w w' ∧ w'.heap.size = w.heap.size + 3

set_option maxRecDepth 100000 in
set_option maxHeartbeats 2000000 in
theorem rounds_any (ws s : List Int) (w : World) (hw : ws.length = 64) (hwb : Words32 ws) (hs : s.length = 8) (hsb : Words32 s) (hK : KLies w) :
    Calls Tryd.prog 92 #[stV s, .agg (ws.map (Value.int .u32)).toArray] w (RoundsPost w ws s) := by
  have hix : ∀ (i : Nat), i < 64 → ∀ W, (Instr.index 99 (.agg (ws.map (Value.int .u32)).toArray) (.int .i64 i)).run Tryd.prog W = .ok (.int .u32 (ws.getD i 0)) W :=
    fun i hi W => run_index_ints 99 ws (by rw [hw]; exact Tryd.underlying99) i (by omega) W
  have HIX := Lib.hid hix
  have HW := Lib.hid hw
  have HWB := Lib.hid hwb
  have HK := Lib.hid hK
  have hi64 : (Tryd.prog.info? 99).map (·.size) = some ws.length := by rw [hw]; exact sizeA64
  have HI64 := Lib.hid hi64
  obtain ⟨a, b, c, d, e, f, g, z, rfl⟩ := list_8 s hs
  have HSB := Lib.hid hsb
  clear hix hw hwb hs hsb hi64 hK
  have hrow : ∀ o1 o3, Row .u32 (((w.alloc o1).alloc (.cells (ws.map (Value.int .u32)).toArray 99)).alloc o3) 99 (w.heap.size + 1) ws := fun o1 o3 => by
    have h := (Row.new (k := .u32) (w.alloc o1) 99 ws).alloc o3
    have e : (w.alloc o1).heap.size = w.heap.size + 1 := by simp
    rw [e] at h
    exact h
  have HROW := Lib.hid hrow
  clear hrow
  simp only [stV, List.map_cons, List.map_nil]
  go_enter Tryd.func92, Tryd.ntmps92
  go_wp2_with fail
  go_quiet (fail)
  go_wp2_with (refine wpList_load_ints rfl 99 (.tmp 3) rfl (w.heap.size + 1) rfl 99 .u32 ws (HROW.out _ _) 64 39 Tryd.underlying99 HI64.out ?_)
  go_loopw [5, 6, 7, 8, 9, 10, 11, 12, 34] (fun x0 x1 x2 x3 x4 x5 x6 x7 i wx => ∃ (n : Nat) (a' b' c' d' e' f' g' z' : Int), n ≤ 64 ∧ i = .int .i64 n ∧ x0 = .int .u32 a' ∧ x1 = .int .u32 b' ∧ x2 = .int .u32 c' ∧ x3 = .int .u32 d' ∧ x4 = .int .u32 e' ∧ x5 = .int .u32 f' ∧ x6 = .int .u32 g' ∧ x7 = .int .u32 z' ∧
      rnds ws [a, b, c, d, e, f, g, z] n = [a', b', c', d', e', f', g', z'] ∧ KLies wx ∧ Row .u32 wx 40 (w.heap.size + 2) [0, 0, 0, 0, 0, 0, 0, 0] ∧ Below w.heap.size w wx ∧ wx.heap.size = w.heap.size + 3) (fun _ _ _ _ _ _ _ _ i _ => 64 - (intOf i).toNat)
  case atStart =>
    have b3 : ∀ o1 o2 o3, Below w.heap.size w (((w.alloc o1).alloc o2).alloc o3) := fun o1 o2 o3 => (((Below.refl _ _).alloc (Nat.le_refl _) _).alloc (by simp) _).alloc (by simp; omega) _
    refine ⟨0, a, b, c, d, e, f, g, z, by omega, rfl, rfl, rfl, rfl, rfl, rfl, rfl, rfl, rfl, rfl, ?_, ?_, ?_, ?_⟩
    · exact HK.out.below (below_drewN (b3 _ _ _) _) HK.out.lt
    · have h : ∀ o1 o2, Row .u32 (((w.alloc o1).alloc o2).alloc (.cells (([0, 0, 0, 0, 0, 0, 0, 0] : List Int).map (Value.int .u32)).toArray 40)) 40 (w.heap.size + 2) [0, 0, 0, 0, 0, 0, 0, 0] := fun o1 o2 => by
        have h := Row.new (k := .u32) ((w.alloc o1).alloc o2) 40 [0, 0, 0, 0, 0, 0, 0, 0]
        have e : ((w.alloc o1).alloc o2).heap.size = w.heap.size + 2 := by simp
        rw [e] at h
        exact h
      exact (h _ _).drewN _
    · exact below_drewN (b3 _ _ _) _
    · simp
  case round =>
    obtain ⟨n, a', b', c', d', e', f', g', z', hn, rfl, rfl, rfl, rfl, rfl, rfl, rfl, rfl, rfl, hrn, hK, hr0, hb, hs⟩ := hrel
    have hbd : Words32 (rnds ws [a, b, c, d, e, f, g, z] n) := rnds_bd rfl HSB.out n
    rw [hrn] at hbd
    have HRN := Lib.hid hrn
    have HK2 := Lib.hid hK
    have HR0 := Lib.hid hr0
    have HB := Lib.hid hb
    have HS := Lib.hid hs
    have ba := hbd a' (by simp)
    have bd := hbd d' (by simp)
    have be := hbd e' (by simp)
    have bz := hbd z' (by simp)
    clear hrn hK hr0 hb hs hbd
    by_cases hlt : n < 64
    · have hx := HIX.out n hlt
      have hk := HK2.out.seg.cellD n (by rw [kTab_length]; exact hlt)
      have bw := word_at HWB.out n
      have bk := word_at kTab_bd n
      have hnext : rnds ws [a, b, c, d, e, f, g, z] (n + 1) = rnd [a', b', c', d', e', f', g', z'] (kTab.getD n 0) (ws.getD n 0) := by rw [← HRN.out]; rfl
      simp only [rnd] at hnext
      rw [Nat.zero_add] at hk
      generalize ws.getD n 0 = v at *
      generalize kTab.getD n 0 = kk at *
      have HN := Lib.hid hnext
      clear hnext
      have bl := lowS_bd e' f' g' z' kk v
      have bu := upS_bd a' b' c'
      have nb : (n : Int) < 64 := by omega
      go_wp2_with (first
        | (go_at_call 96; (with_reducible refine (low_any _ _ _ _ _ _ _ be.1 be.2 bz.1 bz.2 bk.1 bk.2 bw.1 bw.2).mono ?_); rintro e' w' ⟨rfl, rfl⟩)
        | (go_at_call 97; (with_reducible refine (up_any _ _ _ _ ba.1 ba.2).mono ?_); rintro e' w' ⟨rfl, rfl⟩))
      go_roundw
      case rel =>
        exact ⟨n + 1, _, _, _, _, _, _, _, _, by omega, by go_num, rfl, rfl, rfl, rfl, rfl, rfl, rfl, rfl, HN.out, HK2.out, HR0.out, HB.out, HS.out⟩
      case measure => simp [intOf]; omega
    · obtain rfl : n = 64 := by omega
      go_wp2_with (first
        | (refine wpList_store_ints rfl 40 (.tmp 4) (.tmp 72) rfl (w.heap.size + 2) .u32 [a', b', c', d', e', f', g', z'] rfl rfl 40 [0, 0, 0, 0, 0, 0, 0, 0] HR0.out sizeA8 rfl ?_
           intro w5 hr5 hg5 hs5
           have HR5 := Lib.hid hr5
           have HG5 := Lib.hid hg5
           have HS5 := Lib.hid hs5
           clear hr5 hg5 hs5))
      refine bodyPost_ret (v := stV [a', b', c', d', e', f', g', z']) (results_cell_row Tryd.results92 _ _ (w.heap.size + 2) 40 _ _ _ rfl HR5.out Tryd.underlying40 rfl sizeA8) rfl ⟨by rw [HRN.out], ?_, ?_⟩
      · exact below_only HB.out HG5.out (by rw [HS.out]; omega) (by omega)
      · rw [HS5.out, HS.out]
end Go.Proofs.YtkfjhegehhahcaaDoor

/- The contract of step. -/
namespace Go.Proofs.YtkfjhegehhahcaaDoor
open Go.RowKit
set_option linter.unusedVariables false

def StepPost (w : World) (s bs : List Int) (e : Ending) (w' : World) : Prop :=
  e = .returned (stV (stepL s bs)) ∧ Below w.heap.size w w'

set_option maxRecDepth 100000 in
set_option maxHeartbeats 2000000 in
theorem step_any (g off cap : Nat) (s bs : List Int) (w : World) (hs : s.length = 8) (hsb : Words32 s) (hl : bs.length = 64) (hb8 : Bytes8 bs) (hseg : Seg .u8 w g off bs) (hcap : 64 ≤ cap) (hg : g < w.heap.size) (hK : KLies w) :
    Calls Tryd.prog 85 #[stV s, .slice (some ⟨g, off, none⟩) 64 cap] w (StepPost w s bs) := by
  have hlen := sched_length bs
  have hwb := sched_bd hb8
  have hi64 : (Tryd.prog.info? 99).map (·.size) = some (sched bs).length := by rw [hlen]; exact sizeA64
  have hi8 : (Tryd.prog.info? 40).map (·.size) = some s.length := by rw [hs]; exact sizeA8
  have HI64 := Lib.hid hi64
  have HI8 := Lib.hid hi8
  have HL := Lib.hid hlen
  have HWB := Lib.hid hwb
  have HS := Lib.hid hs
  have HSB := Lib.hid hsb
  have HK := Lib.hid hK
  have HBS := Lib.hid (And.intro hl (And.intro hb8 hseg))
  clear hlen hwb hi64 hi8 hs hsb hK hl hb8 hseg
  have b2 : ∀ o1 o2, Below w.heap.size w ((w.alloc o1).alloc o2) := fun o1 o2 => ((Below.refl _ _).alloc (Nat.le_refl _) _).alloc (by simp) _
  have B2 := Lib.hid b2
  have r0 : ∀ o2, Row .u32 ((w.alloc (.cells (s.map (Value.int .u32)).toArray 40)).alloc o2) 40 w.heap.size s := fun o2 => (Row.new w 40 s).alloc o2
  have R0 := Lib.hid r0
  have r1 : ∀ o1, Row .u32 ((w.alloc o1).alloc (.cells (([0, 0, 0, 0, 0, 0, 0, 0] : List Int).map (Value.int .u32)).toArray 40)) 40 (w.heap.size + 1) [0, 0, 0, 0, 0, 0, 0, 0] := fun o1 => by
    have h := Row.new (k := .u32) (w.alloc o1) 40 [0, 0, 0, 0, 0, 0, 0, 0]
    have e : (w.alloc o1).heap.size = w.heap.size + 1 := by simp
    rw [e] at h
    exact h
  have R1 := Lib.hid r1
  clear b2 r0 r1
  unfold stV
  go_enter Tryd.func85, Tryd.ntmps85
  go_wp2_with fail
  refine (sched_any g off cap bs _ HBS.out.1 HBS.out.2.1 (by exact HBS.out.2.2.below (B2.out _ _) hg) hcap (by simp; omega)).mono ?_
  rintro e w1 ⟨rfl, hb1, hs1⟩
  have HB1 : Hid (Below w.heap.size w w1) := Lib.hid ((B2.out _ _).trans (hb1.mono (by simp; omega)))
  have HR1 : Hid (Row .u32 w1 40 w.heap.size s) := Lib.hid ((R0.out _).below hb1 (by simp; omega))
  have HZ1 : Hid (Row .u32 w1 40 (w.heap.size + 1) [0, 0, 0, 0, 0, 0, 0, 0]) := Lib.hid ((R1.out _).below hb1 (by simp))
  have HS1 : Hid (w1.heap.size = w.heap.size + 4) := Lib.hid (by rw [hs1]; simp)
  clear hb1 hs1
  go_wp2_with (first
    | (refine wpList_store_ints rfl 99 (.tmp 5) (.tmp 9) rfl w1.heap.size .u32 (sched bs) rfl rfl 99 (List.replicate 64 0) (Row.new w1 99 (List.replicate 64 0)) HI64.out (by rw [HL.out]; simp) ?_
       intro w2 hr2 hg2 hs2
       have HW2 := Lib.hid hr2
       have HB2 : Hid (Below w.heap.size w w2) := Lib.hid (below_only (HB1.out.alloc HB1.out.size _) hg2 (by have := HB1.out.size; simp; omega) HB1.out.size)
       have HR2 : Hid (Row .u32 w2 40 w.heap.size s) := Lib.hid ((HR1.out.alloc _).grown hg2 (by have := HR1.out.lt; simp; omega))
       have HZ2 : Hid (Row .u32 w2 40 (w.heap.size + 1) [0, 0, 0, 0, 0, 0, 0, 0]) := Lib.hid ((HZ1.out.alloc _).grown hg2 (by have := HZ1.out.lt; simp; omega))
       have HS2 : Hid (w2.heap.size = w.heap.size + 5) := Lib.hid (by rw [hs2]; simp [HS1.out])
       clear hr2 hg2 hs2)
    | (refine wpList_load_ints rfl 40 (.tmp 2) rfl w.heap.size rfl 40 .u32 s HR2.out 8 39 Tryd.underlying40 HI8.out ?_)
    | (refine wpList_load_ints rfl 99 (.tmp 5) rfl w1.heap.size rfl 99 .u32 (sched bs) HW2.out 64 39 Tryd.underlying99 HI64.out ?_))
  refine (rounds_any (sched bs) s w2 HL.out HWB.out HS.out HSB.out (HK.out.below HB2.out HK.out.lt)).mono ?_
  rintro e w3 ⟨rfl, hb3, hs3⟩
  have hxl : (rnds (sched bs) s 64).length = 8 := rnds_length HS.out 64
  have hfin : stepL s bs = addN (rnds (sched bs) s 64) s 8 := (addN_all hxl HS.out).symm
  have hxb : Words32 (rnds (sched bs) s 64) := rnds_bd HS.out HSB.out 64
  generalize rnds (sched bs) s 64 = x at *
  have HXL := Lib.hid hxl
  have HFIN := Lib.hid hfin
  have HXB := Lib.hid hxb
  have HB3 : Hid (Below w.heap.size w w3) := Lib.hid (HB2.out.trans (hb3.mono HB2.out.size))
  have HR3 : Hid (Row .u32 w3 40 w.heap.size s) := Lib.hid (HR2.out.below hb3 HR2.out.lt)
  have HZ3 : Hid (Row .u32 w3 40 (w.heap.size + 1) [0, 0, 0, 0, 0, 0, 0, 0]) := Lib.hid (HZ2.out.below hb3 HZ2.out.lt)
  have HS3 : Hid (w3.heap.size = w.heap.size + 8) := Lib.hid (by rw [hs3, HS2.out])
  have hi8x : (Tryd.prog.info? 40).map (·.size) = some x.length := by rw [hxl]; exact sizeA8
  have HI8X := Lib.hid hi8x
  clear hxl hfin hxb hb3 hs3 hi8x
  go_wp2_with (first
    | (refine wpList_store_ints rfl 40 (.tmp 6) (.tmp 12) rfl w3.heap.size .u32 x rfl rfl 40 [0, 0, 0, 0, 0, 0, 0, 0] (Row.new w3 40 [0, 0, 0, 0, 0, 0, 0, 0]) HI8X.out (by rw [HXL.out]; rfl) ?_
       intro w4 hr4 hg4 hs4
       have HX4 := Lib.hid hr4
       have HB4 : Hid (Below w.heap.size w w4) := Lib.hid (below_only (HB3.out.alloc HB3.out.size _) hg4 (by have := HB3.out.size; simp; omega) HB3.out.size)
       have HR4 : Hid (Row .u32 w4 40 w.heap.size s) := Lib.hid ((HR3.out.alloc _).grown hg4 (by have := HR3.out.lt; simp; omega))
       have HZ4 : Hid (Row .u32 w4 40 (w.heap.size + 1) [0, 0, 0, 0, 0, 0, 0, 0]) := Lib.hid ((HZ3.out.alloc _).grown hg4 (by have := HZ3.out.lt; simp; omega))
       have HS4 : Hid (w4.heap.size = w.heap.size + 9) := Lib.hid (by rw [hs4]; simp [HS3.out])
       clear hr4 hg4 hs4))
  go_loopw [13] (fun i wx => ∃ n : Nat, n ≤ 8 ∧ i = .int .i64 n ∧ Row .u32 wx 40 w3.heap.size (addN x s n) ∧ Row .u32 wx 40 w.heap.size s ∧ Row .u32 wx 40 (w.heap.size + 1) [0, 0, 0, 0, 0, 0, 0, 0] ∧ Below w.heap.size w wx) (fun i _ => 8 - (intOf i).toNat)
  case atStart => exact ⟨0, by omega, rfl, HX4.out, HR4.out, HZ4.out, HB4.out⟩
  case round =>
    obtain ⟨n, hn, rfl, hx, hr, hz, hb⟩ := hrel
    have HX := Lib.hid hx
    have HR := Lib.hid hr
    have HZ := Lib.hid hz
    have HB := Lib.hid hb
    clear hx hr hz hb
    by_cases hlt : n < 8
    · have c1 := HX.out.cellD n (by rw [addN_length, HXL.out]; exact hlt)
      have c2 := HR.out.cellD n (by rw [HS.out]; exact hlt)
      have f1 := HX.out.frozen n
      rw [addN_get x s n n (Nat.le_refl _)] at c1
      have b1 := word_at HXB.out n
      have b2 := word_at HSB.out n
      have hst : ∀ q, Row .u32 ((wr.drewN q).setCell ⟨w3.heap.size, n, none⟩ (.int .u32 ((x.getD n 0 + s.getD n 0) % 4294967296))) 40 w3.heap.size (addN x s (n + 1)) := fun q => (HX.out.drewN q).set n _
      generalize x.getD n 0 = y at *
      generalize s.getD n 0 = v at *
      have HST := Lib.hid hst
      have nb : (n : Int) < 8 := by omega
      clear hst
      go_wp2_with fail
      go_region
      go_wp2_with fail
      go_roundw
      case rel =>
        refine ⟨n + 1, by omega, by go_num, ?_, ?_, ?_, ?_⟩
        · first
            | exact HST.out _
            | exact HST.out 1
        · exact HR.out.drew.far (by have := HR4.out.lt; have := HS3.out; simp; omega) _
        · exact HZ.out.drew.far (by have := HS3.out; simp; omega) _
        · exact HB.out.drew.setCell (by have := HS3.out; simp; omega) _
      case measure => simp [intOf]; omega
    · obtain rfl : n = 8 := by omega
      have hi8y : (Tryd.prog.info? 40).map (·.size) = some (addN x s 8).length := by rw [addN_length]; exact HI8X.out
      have HI8Y := Lib.hid hi8y
      clear hi8y
      go_wp2_with (first
        | (refine wpList_load_ints rfl 40 (.tmp 6) rfl w3.heap.size rfl 40 .u32 (addN x s 8) HX.out 8 39 Tryd.underlying40 HI8Y.out ?_)
        | (refine wpList_store_ints rfl 40 (.tmp 4) (.tmp 25) rfl (w.heap.size + 1) .u32 (addN x s 8) rfl rfl 40 [0, 0, 0, 0, 0, 0, 0, 0] HZ.out HI8Y.out (by rw [addN_length, HXL.out]; rfl) ?_
           intro w5 hr5 hg5 hs5
           have HR5 := Lib.hid hr5
           have HG5 := Lib.hid hg5
           clear hr5 hg5 hs5))
      refine bodyPost_ret (v := stV (addN x s 8)) (results_cell_row Tryd.results85 _ _ (w.heap.size + 1) 40 _ _ _ rfl HR5.out Tryd.underlying40 rfl (by rw [ints_size]; exact HI8Y.out)) rfl ⟨by rw [HFIN.out], ?_⟩
      exact below_only HB.out HG5.out HB.out.size (by omega)
end Go.Proofs.YtkfjhegehhahcaaDoor

/- Contracts of First and Step. -/
namespace Go.Proofs.YtkfjhegehhahcaaDoor
open Go.RowKit
set_option linter.unusedVariables false

/-- Both tables lie where the program has them. -/
structure TabLies (w : World) : Prop where
  k : ∃ t fr, w.heap[2]? = some (.cells (kTab.map (Value.int .u32)).toArray t fr)
  h : ∃ t fr, w.heap[1]? = some (.cells (hTab.map (Value.int .u32)).toArray t fr)
theorem heap_lt {w : World} {g : Nat} {o : Obj} (h : w.heap[g]? = some o) : g < w.heap.size := by
  rcases Nat.lt_or_ge g w.heap.size with hlt | hge
  · exact hlt
  · rw [Array.getElem?_eq_none hge] at h; cases h
theorem TabLies.kl {w : World} (h : TabLies w) : KLies w := by
  obtain ⟨t, fr, hk⟩ := h.k
  refine ⟨fun i hi => ?_, heap_lt hk⟩
  rw [Nat.zero_add, cell_of_row w _ i _ t fr hk]
  simp [hi]
theorem TabLies.below {w w' : World} (h : TabLies w) {B : Nat} (hb : Below B w w') (hB : w.heap.size ≤ B) : TabLies w' := by
  obtain ⟨t, fr, hk⟩ := h.k
  obtain ⟨t', fr', hh⟩ := h.h
  exact ⟨⟨t, fr, (hb.block _ (Nat.lt_of_lt_of_le (heap_lt hk) hB)).trans hk⟩, ⟨t', fr', (hb.block _ (Nat.lt_of_lt_of_le (heap_lt hh) hB)).trans hh⟩⟩

def FirstPost (w : World) (e : Ending) (w' : World) : Prop := e = .returned (stV hTab) ∧ Below w.heap.size w w'
set_option maxRecDepth 100000 in
theorem First_any (w : World) (hT : TabLies w) : Calls Tryd.prog 78 #[] w (FirstPost w) := by
  obtain ⟨t, fr, hh⟩ := hT.h
  have HH : ∀ o, Hid ((w.alloc o).heap[1]? = some (.cells (hTab.map (Value.int .u32)).toArray t fr)) := fun o => Lib.hid ((Below.heap_alloc w o _ (heap_lt hh)).trans hh)
  clear hh hT
  go_enter Tryd.func78, Tryd.ntmps78
  go_wp2_with (first
    | (refine wpList_load_row rfl 40 (.global 1) rfl 1 rfl t _ fr _ (HH _).out Tryd.underlying40 rfl sizeA8 ?_)
    | (refine wpList_store_ints rfl 40 (.tmp 0) (.tmp 1) rfl w.heap.size .u32 hTab rfl rfl 40 [0, 0, 0, 0, 0, 0, 0, 0] (Row.new w 40 [0, 0, 0, 0, 0, 0, 0, 0]) sizeA8 rfl ?_
       intro w5 hr5 hg5 hs5
       have HR5 := Lib.hid hr5
       have HG5 := Lib.hid hg5
       clear hr5 hg5 hs5))
  refine bodyPost_ret (v := stV hTab) (results_cell_row Tryd.results78 _ _ w.heap.size 40 _ _ _ rfl HR5.out Tryd.underlying40 rfl sizeA8) rfl ⟨rfl, ?_⟩
  exact below_only ((Below.refl _ _).alloc (Nat.le_refl _) _) HG5.out (by simp) (Nat.le_refl _)
end Go.Proofs.YtkfjhegehhahcaaDoor

/- The contract of steps. -/
namespace Go.Proofs.YtkfjhegehhahcaaDoor
open Go.RowKit
set_option linter.unusedVariables false

def StepsPost (w : World) (s bs : List Int) (m : Nat) (e : Ending) (w' : World) : Prop := e = .returned (stV (stepsL s bs m)) ∧ Below w.heap.size w w'

set_option maxRecDepth 100000 in
set_option maxHeartbeats 2000000 in
theorem steps_any (a : Option Addr) (n cap m : Nat) (s bs : List Int) (w : World) (hs : s.length = 8) (hsb : Words32 s) (hin : InBytes w a n cap bs) (hm : n = 64 * m) (hK : KLies w) :
    Calls Tryd.prog 77 #[stV s, .slice a n cap] w (StepsPost w s bs m) := by
  have hmax := hin.max
  have hle := hin.le
  simp only [maxLen] at hmax
  have b2 : ∀ o1 o2, Below w.heap.size w ((w.alloc o1).alloc o2) := fun o1 o2 => ((Below.refl _ _).alloc (Nat.le_refl _) _).alloc (by simp) _
  have r0 : ∀ o2, Row .u32 ((w.alloc (.cells (s.map (Value.int .u32)).toArray 40)).alloc o2) 40 w.heap.size s := fun o2 => (Row.new w 40 s).alloc o2
  have r1 : ∀ o1, Row .u32 ((w.alloc o1).alloc (.cells (([0, 0, 0, 0, 0, 0, 0, 0] : List Int).map (Value.int .u32)).toArray 40)) 40 (w.heap.size + 1) [0, 0, 0, 0, 0, 0, 0, 0] := fun o1 => by
    have h := Row.new (k := .u32) (w.alloc o1) 40 [0, 0, 0, 0, 0, 0, 0, 0]
    have e : (w.alloc o1).heap.size = w.heap.size + 1 := by simp
    rw [e] at h
    exact h
  have B2 := Lib.hid b2
  have R0 := Lib.hid r0
  have R1 := Lib.hid r1
  have HS := Lib.hid hs
  have HSB := Lib.hid hsb
  have HIN := Lib.hid hin
  have HK := Lib.hid hK
  have HM := Lib.hid hm
  clear b2 r0 r1 hs hsb hin hK hm
  unfold stV
  go_enter Tryd.func77, Tryd.ntmps77
  go_wp2_with fail
  go_loopw [5] (fun i wx => ∃ q : Nat, q ≤ m ∧ i = .int .i64 (64 * (q : Int)) ∧ Row .u32 wx 40 w.heap.size (stepsL s bs q) ∧ Row .u32 wx 40 (w.heap.size + 1) [0, 0, 0, 0, 0, 0, 0, 0] ∧ Below w.heap.size w wx ∧ w.heap.size + 2 ≤ wx.heap.size) (fun i _ => 64 * m - (intOf i).toNat)
  case atStart => exact ⟨0, by omega, rfl, R0.out _, R1.out _, B2.out _ _, by simp⟩
  case round =>
    obtain ⟨q, hq, rfl, hr, hz, hb, hsz⟩ := hrel
    have HR := Lib.hid hr
    have HZ := Lib.hid hz
    have HB := Lib.hid hb
    clear hr hz hb
    have hn := HM.out
    by_cases hlt : q < m
    · obtain ⟨g, off, rfl, hg, hseg⟩ := HIN.out.place (by omega)
      have hl8 : (stepsL s bs q).length = 8 := stepsL_length HS.out bs q
      have hc : ∀ W, Below wr.heap.size wr W → Calls Tryd.prog 85 #[stV (stepsL s bs q), .slice (some ⟨g, off + 64 * q, none⟩) 64 (cap - 64 * q)] W (StepPost W (stepsL s bs q) ((bs.drop (64 * q)).take 64)) := fun W hW => by
        have hbW : Below w.heap.size w W := HB.out.trans (hW.mono HB.out.size)
        refine step_any g (off + 64 * q) (cap - 64 * q) _ _ W hl8 (stepsL_bd HSB.out bs q) ?_ ?_ ?_ (by omega) (Nat.lt_of_lt_of_le hg hbW.size) (HK.out.below hbW HK.out.lt)
        · have := HIN.out.len
          simp; omega
        · exact fun z hz => HIN.out.bytes z (List.mem_of_mem_drop (List.mem_of_mem_take hz))
        · exact ((hseg.below hbW hg).drop (64 * q)).take 64
      obtain ⟨y0, y1, y2, y3, y4, y5, y6, y7, hy⟩ := list_8 (stepL (stepsL s bs q) ((bs.drop (64 * q)).take 64)) (stepL_length hl8 _)
      have hnx : stepsL s bs (q + 1) = [y0, y1, y2, y3, y4, y5, y6, y7] := hy
      obtain ⟨x0, x1, x2, x3, x4, x5, x6, x7, hx⟩ := list_8 (stepsL s bs q) hl8
      have hc2 : ∀ W, Below wr.heap.size wr W → Calls Tryd.prog 85 #[.agg #[.int .u32 x0, .int .u32 x1, .int .u32 x2, .int .u32 x3, .int .u32 x4, .int .u32 x5, .int .u32 x6, .int .u32 x7], .slice (some ⟨g, off + 64 * q, none⟩) 64 (cap - 64 * q)] W (fun e w' => e = .returned (.agg #[.int .u32 y0, .int .u32 y1, .int .u32 y2, .int .u32 y3, .int .u32 y4, .int .u32 y5, .int .u32 y6, .int .u32 y7]) ∧ Below W.heap.size W w') := fun W hW => by
        have h := hc W hW
        unfold StepPost at h
        rw [hy, hx] at h
        exact h
      have hr := HR.out
      rw [hx] at hr
      have HC := Lib.hid hc2
      have HNX := Lib.hid hnx
      have HR2 := Lib.hid hr
      have c0 := hr.cell 0 (by simp)
      have c1 := hr.cell 1 (by simp)
      have c2 := hr.cell 2 (by simp)
      have c3 := hr.cell 3 (by simp)
      have c4 := hr.cell 4 (by simp)
      have c5 := hr.cell 5 (by simp)
      have c6 := hr.cell 6 (by simp)
      have c7 := hr.cell 7 (by simp)
      simp only [List.getElem_cons_zero, List.getElem_cons_succ] at c0 c1 c2 c3 c4 c5 c6 c7
      have k1 : 64 * (q : Int) < (n : Int) := by omega
      have k2 : (64 * (q : Int) + 64).toNat = 64 * q + 64 := by omega
      have k3 : IntKind.i64.wrap (64 * (q : Int) + 64) = 64 * (q : Int) + 64 := IntWalk.i64_in _ (by omega)
      have k4 : (0 : Int) ≤ 64 * (q : Int) := by omega
      have k5 : 64 * (q : Int) + 64 ≤ (cap : Int) := by omega
      have k6 : (64 * (q : Int)).toNat = 64 * q := by omega
      have k8 : ¬ cap = 64 * q := by omega
      have k7 : 64 * (q : Int) ≤ 64 * (q : Int) + 64 := by omega
      clear hl8 hc hn hseg hy hnx hx hc2 hr
      go_wp2_with fail
      go_region_with (go_at_call 85; (with_reducible refine (HC.out _ (Below.refl _ _).drew).mono ?_); rintro _ w3 ⟨rfl, hb3⟩; have HR3 : Hid (Row .u32 w3 40 w.heap.size [x0, x1, x2, x3, x4, x5, x6, x7]) := Lib.hid (HR2.out.drew.below hb3 HR2.out.lt); have HZ3 : Hid (Row .u32 w3 40 (w.heap.size + 1) [0, 0, 0, 0, 0, 0, 0, 0]) := Lib.hid (HZ.out.drew.below hb3 HZ.out.lt); have hcc := fun o => hb3.cell (p := ⟨w.heap.size, o, none⟩) HR2.out.lt; have hff := fun o => HR3.out.frozen o; have HB3 : Hid (Below w.heap.size w w3) := Lib.hid (HB.out.drew.trans (hb3.mono HB.out.size)); clear hb3)
      clear k1 k2 k3 k4 k5 k6 k7 k8 hcc hff c0 c1 c2 c3 c4 c5 c6 c7
      have hn := HM.out
      have k9 : 64 * (q : Int) + 64 ≤ 9223372036854775807 := by omega
      clear hn
      go_wp2_with fail
      go_roundw
      case rel =>
        have hlt2 := HR2.out.lt
        refine ⟨q + 1, by omega, by congr 1, ?_, ?_, ?_, ?_⟩
        · rw [HNX.out]
          exact ((((((((HR3.out.set 0 y0).set 1 y1).set 2 y2).set 3 y3).set 4 y4).set 5 y5).set 6 y6).set 7 y7)
        · exact ((((((((HZ3.out.far (by simp) _).far (by simp) _).far (by simp) _).far (by simp) _).far (by simp) _).far (by simp) _).far (by simp) _).far (by simp) _)
        · exact ((((((((HB3.out.setCell (Nat.le_refl _) _).setCell (Nat.le_refl _) _).setCell (Nat.le_refl _) _).setCell (Nat.le_refl _) _).setCell (Nat.le_refl _) _).setCell (Nat.le_refl _) _).setCell (Nat.le_refl _) _).setCell (Nat.le_refl _) _)
        · have := HZ3.out.lt
          simp [World.setCell]; omega
      case measure => simp [intOf]; omega
    · obtain rfl : q = m := by omega
      have hi8 : (Tryd.prog.info? 40).map (·.size) = some (stepsL s bs q).length := by rw [stepsL_length HS.out]; exact sizeA8
      have HI8 := Lib.hid hi8
      have k1 : ¬ 64 * (q : Int) < (n : Int) := by omega
      clear hi8 hn
      go_wp2_with (first
        | (refine wpList_load_ints rfl 40 (.tmp 2) rfl w.heap.size rfl 40 .u32 (stepsL s bs q) HR.out 8 39 Tryd.underlying40 HI8.out ?_)
        | (refine wpList_store_ints rfl 40 (.tmp 4) (.tmp 19) rfl (w.heap.size + 1) .u32 (stepsL s bs q) rfl rfl 40 [0, 0, 0, 0, 0, 0, 0, 0] HZ.out HI8.out (by rw [stepsL_length HS.out]; rfl) ?_
           intro w5 hr5 hg5 hs5
           have HR5 := Lib.hid hr5
           have HG5 := Lib.hid hg5
           clear hr5 hg5 hs5))
      refine bodyPost_ret (v := stV (stepsL s bs q)) (results_cell_row Tryd.results77 _ _ (w.heap.size + 1) 40 _ _ _ rfl HR5.out Tryd.underlying40 rfl (by rw [ints_size]; exact HI8.out)) rfl ⟨rfl, ?_⟩
      exact below_only HB.out HG5.out HB.out.size (by omega)
end Go.Proofs.YtkfjhegehhahcaaDoor

/- Contracts of withTail and stateBytes. -/
namespace Go.Proofs.YtkfjhegehhahcaaDoor
open Go.RowKit
set_option linter.unusedVariables false

def WithTailPost (w : World) (r : List Int) (n : Nat) (e : Ending) (w' : World) : Prop :=
  ∃ g cap, e = .returned (.slice (some ⟨g, 0, none⟩) (r.length + (nils n + 9)) cap) ∧ w'.ownsRow w.heap.size 5 1 (.slice (some ⟨g, 0, none⟩) (r.length + (nils n + 9)) cap) (r.length + (nils n + 9)) ((r ++ tailL n).map (Value.int .u8)) ∧ Below w.heap.size w w'

set_option maxRecDepth 100000 in
set_option maxHeartbeats 1000000 in
theorem withTail_any (a : Option Addr) (k cap n : Nat) (r : List Int) (w : World) (hin : InBytes w a k cap r) (hk : k < 64) (hn : (n : Int) ≤ 1125899906842624) :
    Calls Tryd.prog 79 #[.slice a k cap, .int .i64 n] w (WithTailPost w r n) := by
  obtain ⟨i0, hi0, hz0, hz1, hz2⟩ := info_parts infoU8
  have hnl := nils_lt n
  have hlen := tailL_length n
  have hrl := hin.len
  have HIN := Lib.hid hin
  have HLEN := Lib.hid hlen
  have HRL := Lib.hid hrl
  clear hin hlen hrl
  go_enter Tryd.func79, Tryd.ntmps79
  go_wp2_with (first
    | (at_make
       refine wpList_make_own _ rfl (.const (.int .i64 0)) (.const (.int .i64 128)) 22 rfl w.heap.size 5 i0 _ 1 Tryd.underlying22 hi0 hz0 hz1 .i64 .i64 _ 128 rfl rfl rfl (by rw [hz2]; omega) (by simp only [maxLen]; omega) (Nat.le_refl _) ?_
       intro w1 hown1 hg1
       have HO1 := Lib.hid hown1
       have HB1 : Hid (Below w.heap.size w w1) := Lib.hid ((Below.refl _ _).grown hg1 (Nat.le_refl _) (by simp))
       clear hown1 hg1)
    | (at_builtin
       refine wpList_append_bytes _ rfl (.tmp 7) (.tmp 8) 22 rfl w.heap.size 5 i0 _ 1 Tryd.underlying22 hi0 hz0 hz1 hz2 rfl (.slice (some ⟨w.heap.size, 0, none⟩) 0 128) 0 [] rfl HO1.out a k cap r rfl (HIN.out.below HB1.out) (by simp only [maxLen]; omega) (by omega) HB1.out.size ?_
       intro v2 w2 hown2 hg2
       have HO2 := Lib.hid hown2
       have HB2 : Hid (Below w.heap.size w w2) := Lib.hid (HB1.out.grown hg2 HB1.out.size (fun j hj => (HO1.out.lt j hj).1))
       clear hown2 hg2)
    | (go_at_call 86
       (with_reducible refine (tail_any n _ hn).mono ?_)
       rintro e w3 ⟨rfl, hr3, hb3, hs3⟩
       have HO3 : Hid (w3.ownsRow w.heap.size 5 1 v2 (0 + k) ([] ++ r.map (Value.int .u8))) := Lib.hid (HO2.out.kept (only_below hb3 none) (by cases v2.ownBlock <;> simp))
       have HB3 : Hid (Below w.heap.size w w3) := Lib.hid (HB2.out.trans (hb3.mono HB2.out.size))
       have HR3 := Lib.hid hr3
       clear hr3 hb3 hs3)
    | (at_builtin
       refine wpList_append_own _ rfl (.tmp 10) (.tmp 12) 22 rfl w.heap.size 5 i0 _ 1 1 Tryd.underlying22 hi0 hz0 hz1 hz2 rfl (by omega) v2 (0 + k) ([] ++ r.map (Value.int .u8)) rfl HO3.out ⟨w2.heap.size, 0, none⟩ (nils n + 9) (nils n + 9) ((tailL n).map (Value.int .u8)) rfl (by simp [HLEN.out]) (by exact HR3.out.seg.news) (by simp [Value.oneCell']) (by simp only [maxLen]; omega) (by omega) HB3.out.size ?_
       intro v4 w4 hown4 hg4 hat4
       obtain ⟨g4, cap4, hv4, hgg4, hlt4⟩ := hown4.form (by omega)
       rw [hv4]
       rw [hv4] at hown4
       have HO4 := Lib.hid hown4
       have HB4 : Hid (Below w.heap.size w w4) := Lib.hid (HB3.out.grown hg4 HB3.out.size (fun j hj => (HO3.out.lt j hj).1))
       clear hown4 hg4 hat4 hv4))
  go_ret
  refine ⟨g4, cap4, ?_, ?_, HB4.out⟩
  · rw [HRL.out]; simp
  · have h := HO4.out
    rw [List.nil_append, Nat.zero_add, ← List.map_append, ← HRL.out] at h
    exact h
end Go.Proofs.YtkfjhegehhahcaaDoor

/- The contract of stateBytes. -/
namespace Go.Proofs.YtkfjhegehhahcaaDoor
open Go.RowKit
set_option linter.unusedVariables false

theorem putB_be4 (pre : List Int) (k : Nat) (x : Int) : putB (pre ++ List.replicate (k + 4) 0) pre.length 4 x 4 = (pre ++ be4 x) ++ List.replicate k 0 := by
  rw [putB_append, List.append_assoc]
  congr 1
  simp [putB, be4, List.replicate_succ]
theorem bytesL_take (s : List Int) (i : Nat) (h : i < s.length) : bytesL (s.take (i + 1)) = bytesL (s.take i) ++ be4 (s.getD i 0) := by
  rw [List.take_succ_eq_append_getElem h]
  simp only [bytesL, List.flatMap_append, List.flatMap_cons, List.flatMap_nil, List.append_nil]
  simp [List.getD, h]
theorem bytesL_length (s : List Int) : (bytesL s).length = 4 * s.length := by
  induction s with
  | nil => rfl
  | cons a r ih => simp only [bytesL, List.flatMap_cons, List.length_append, List.length_cons] at ih ⊢; rw [ih]; simp [be4]; omega

def StateBytesPost (w : World) (s : List Int) (e : Ending) (w' : World) : Prop :=
  e = .returned (.slice (some ⟨w.heap.size + 1, 0, none⟩) 32 32) ∧ Row .u8 w' 5 (w.heap.size + 1) (bytesL s) ∧ Below w.heap.size w w'

set_option maxRecDepth 100000 in
set_option maxHeartbeats 1000000 in
theorem stateBytes_any (s : List Int) (w : World) (hs : s.length = 8) (hsb : Words32 s) :
    Calls Tryd.prog 80 #[stV s] w (StateBytesPost w s) := by
  obtain ⟨i0, hi0, hz0, hz1, hz2⟩ := info_parts infoU8
  have hix : ∀ (i : Nat), i < 8 → ∀ W, (Instr.index 40 (.agg (s.map (Value.int .u32)).toArray) (.int .i64 i)).run Tryd.prog W = .ok (.int .u32 (s.getD i 0)) W :=
    fun i hi W => run_index_ints 40 s (by rw [hs]; exact Tryd.underlying40) i (by omega) W
  have hi8 : (Tryd.prog.info? 40).map (·.size) = some s.length := by rw [hs]; exact sizeA8
  have HI8 := Lib.hid hi8
  have HIX := Lib.hid hix
  have HS := Lib.hid hs
  have HSB := Lib.hid hsb
  clear hix hi8 hs hsb
  unfold stV
  go_enter Tryd.func80, Tryd.ntmps80
  go_wp2_with (first
    | (at_make
       refine wpList_make_ints _ rfl (.const (.int .i64 32)) (.const (.int .i64 32)) 22 rfl 5 i0 .u8 Tryd.underlying22 hi0 hz0 hz1 .i64 .i64 _ _ 32 rfl rfl (by omega) (by omega) (by rw [hz2]; omega) (by simp only [maxLen]; omega) ?_
       intro w1 hr1 hb1 hs1
       have HR1 : Hid (Row .u8 w1 5 (w.heap.size + 1) (List.replicate 32 0)) := Lib.hid (by have h := hr1; simp only [World.size_alloc] at h; exact h)
       have HV1 : Hid (Row .u32 w1 40 w.heap.size s) := Lib.hid ((Row.new w 40 s).below hb1 (by simp))
       have HB1 : Hid (Below w.heap.size w w1) := Lib.hid (((Below.refl _ _).alloc (Nat.le_refl _) _).trans (hb1.mono (by simp)))
       clear hr1 hb1 hs1)
    | (refine wpList_load_ints rfl 40 (.tmp 1) rfl w.heap.size rfl 40 .u32 s HV1.out 8 39 Tryd.underlying40 HI8.out ?_))
  go_loopw [8] (fun i wx => ∃ n : Nat, n ≤ 8 ∧ i = .int .i64 n ∧ Row .u8 wx 5 (w.heap.size + 1) (bytesL (s.take n) ++ List.replicate (32 - 4 * n) 0) ∧ Below w.heap.size w wx) (fun i _ => 8 - (intOf i).toNat)
  case atStart => exact ⟨0, by omega, rfl, HR1.out, HB1.out⟩
  case round =>
    obtain ⟨n, hn, rfl, hr, hb⟩ := hrel
    have HR := Lib.hid hr
    have HB := Lib.hid hb
    clear hr hb
    by_cases hlt : n < 8
    · have hx := HIX.out n hlt
      have bx := word_at HSB.out n
      have hnx := bytesL_take s n (by rw [HS.out]; exact hlt)
      generalize s.getD n 0 = x at *
      have HNX := Lib.hid hnx
      clear hnx
      have hpl : (bytesL (s.take n)).length = 4 * n := by rw [bytesL_length, List.length_take, HS.out]; omega
      have hput := putB_be4 (bytesL (s.take n)) (28 - 4 * n) x
      rw [hpl, show 28 - 4 * n + 4 = 32 - 4 * n by omega] at hput
      have HPUT := Lib.hid hput
      have HPL := Lib.hid hpl
      clear hput hpl
      go_wp2_with fail
      rw [show 4 * (n + 1) - 4 * n = 4 by omega]
      refine (putBig_any (w.heap.size + 1) (4 * n) 4 (32 - 4 * n) _ x wr HR.out (by rw [List.length_append, HPL.out, List.length_replicate]; omega) (by omega) bx.1 (by omega)).mono ?_
      rintro e w2 ⟨rfl, hr2, hs2, hg2⟩
      rw [HPUT.out, ← HNX.out] at hr2
      have HR2 := Lib.hid hr2
      have HB2 : Hid (Below w.heap.size w w2) := Lib.hid (below_only HB.out hg2 HB.out.size (by omega))
      clear hr2 hs2 hg2
      go_wp2_with fail
      go_roundw
      case rel => exact ⟨n + 1, by omega, by go_num, by rw [show 32 - 4 * (n + 1) = 28 - 4 * n by omega]; exact HR2.out, HB2.out⟩
      case measure => simp [intOf]; omega
    · obtain rfl : n = 8 := by omega
      have hfin : bytesL (s.take 8) ++ List.replicate (32 - 4 * 8) 0 = bytesL s := by
        rw [List.take_of_length_le (by rw [HS.out]; omega)]
        simp
      have hr := HR.out
      rw [hfin] at hr
      have HR2 := Lib.hid hr
      clear hr hfin
      go_wp2_with fail
      go_ret
      exact ⟨rfl, HR2.out, HB.out⟩
end Go.Proofs.YtkfjhegehhahcaaDoor

/- The contract of Sum. -/
namespace Go.Proofs.YtkfjhegehhahcaaDoor
open Go.RowKit
set_option linter.unusedVariables false

def SumPost (w : World) (bs : List Int) (e : Ending) (w' : World) : Prop :=
  ∃ g, w.heap.size ≤ g ∧ e = .returned (.slice (some ⟨g, 0, none⟩) 32 32) ∧ Row .u8 w' 5 g (sumL bs) ∧ Below w.heap.size w w'

set_option maxRecDepth 100000 in
set_option maxHeartbeats 2000000 in
theorem Sum_any (a : Option Addr) (n cap : Nat) (bs : List Int) (w : World) (hin : InBytes w a n cap bs) (hn : (n : Int) ≤ 1125899906842624) (hT : TabLies w) :
    Calls Tryd.prog 63 #[.slice a n cap] w (SumPost w bs) := by
  obtain ⟨m, r, hr, hnm⟩ : ∃ m r, r < 64 ∧ n = 64 * m + r := ⟨n / 64, n % 64, by omega, by omega⟩
  have hle := hin.le
  have hmax := hin.max
  simp only [maxLen] at hmax
  have hwh : (n : Int) - (n : Int) % 64 = 64 * (m : Int) := by omega
  have HIN := Lib.hid hin
  have HT := Lib.hid hT
  have HNM := Lib.hid hnm
  have k1 : (64 * (m : Int)).toNat = 64 * m := by omega
  have k2 : (0 : Int) ≤ 64 * (m : Int) := by omega
  have k3 : 64 * (m : Int) ≤ (cap : Int) := by omega
  have k4 : 64 * (m : Int) ≤ (n : Int) := by omega
  clear hin hT hnm
  go_enter Tryd.func63, Tryd.ntmps63
  go_upto_region 2 with fail
  have hstep : ∀ W, Below w.heap.size w W → Calls Tryd.prog 77 #[stV hTab, .slice a (64 * m) cap] W (StepsPost W hTab (bs.take (64 * m)) m) := fun W hW =>
    steps_any a (64 * m) cap m hTab _ W rfl hTab_bd ((HIN.out.below hW).upto (64 * m) (by have := HNM.out; omega)) rfl (HT.out.below hW (Nat.le_refl _)).kl
  have hfirst : ∀ W, Below w.heap.size w W → Calls Tryd.prog 78 #[] W (FirstPost W) := fun W hW => First_any W (HT.out.below hW (Nat.le_refl _))
  obtain ⟨y0, y1, y2, y3, y4, y5, y6, y7, hy⟩ := list_8 (stepsL hTab (bs.take (64 * m)) m) (stepsL_length rfl _ m)
  have hstep2 : ∀ W, Below w.heap.size w W → Calls Tryd.prog 77 #[stV hTab, .slice a (64 * m) cap] W (fun e w' => e = .returned (.agg #[.int .u32 y0, .int .u32 y1, .int .u32 y2, .int .u32 y3, .int .u32 y4, .int .u32 y5, .int .u32 y6, .int .u32 y7]) ∧ Below W.heap.size W w') := fun W hW => by
    have h := hstep W hW
    unfold StepsPost at h
    rw [hy] at h
    exact h
  have HSTEP := Lib.hid hstep2
  have HFIRST := Lib.hid hfirst
  have HY := Lib.hid hy
  clear hstep hstep2 hfirst hy
  go_cut [4] (fun s4 wx => ∃ g : Nat, s4 = .pointer (some ⟨g, 0, none⟩) ∧ w.heap.size ≤ g ∧ Row .u32 wx 40 g [y0, y1, y2, y3, y4, y5, y6, y7] ∧ Below w.heap.size w wx)
  case first =>
    go_region_with (first
      | (go_at_call 78
         (with_reducible refine (HFIRST.out _ ?_).mono ?_)
         · exact (Below.refl _ _).drew
         rintro _ w1 ⟨rfl, hb1⟩
         have HW1 : Hid (Below w.heap.size w w1) := Lib.hid ((Below.refl _ _).drew.trans (hb1.mono (Nat.le_refl _)))
         clear hb1)
      | (go_at_call 78
         (with_reducible refine (HFIRST.out _ ?_).mono ?_)
         · exact ((Below.refl _ _).alloc (Nat.le_refl _) _).drew
         rintro _ w1 ⟨rfl, hb1⟩
         have HW1 : Hid (Below w.heap.size w w1) := Lib.hid (((Below.refl _ _).alloc (Nat.le_refl _) _).drew.trans (hb1.mono (by simp)))
         have HZ1 : Hid (Row .u32 w1 40 w.heap.size [0, 0, 0, 0, 0, 0, 0, 0]) := Lib.hid ((Row.new w 40 [0, 0, 0, 0, 0, 0, 0, 0]).drew.below hb1 (by simp))
         clear hb1)
      | (go_at_call 78
         (with_reducible refine (HFIRST.out _ ?_).mono ?_)
         · exact ((Below.refl _ _).drew.alloc (Nat.le_refl _) _)
         rintro _ w1 ⟨rfl, hb1⟩
         have HW1 : Hid (Below w.heap.size w w1) := Lib.hid (((Below.refl _ _).drew.alloc (Nat.le_refl _) _).trans (hb1.mono (by simp)))
         have HZ1 : Hid (Row .u32 w1 40 w.heap.size [0, 0, 0, 0, 0, 0, 0, 0]) := Lib.hid ((Row.new w.drew 40 [0, 0, 0, 0, 0, 0, 0, 0]).below hb1 (by simp))
         clear hb1)
      | (go_at_call 77
         (with_reducible refine (HSTEP.out _ ?_).mono ?_)
         · exact HW1.out
         rintro _ w2 ⟨rfl, hb2⟩
         have HW2 : Hid (Below w.heap.size w w2) := Lib.hid (HW1.out.trans (hb2.mono HW1.out.size))
         have HZ2 : Hid (Row .u32 w2 40 w.heap.size [0, 0, 0, 0, 0, 0, 0, 0]) := Lib.hid (HZ1.out.below hb2 HZ1.out.lt)
         have q0 := HZ2.out.cell 0 (by simp)
         have q1 := HZ2.out.cell 1 (by simp)
         have q2 := HZ2.out.cell 2 (by simp)
         have q3 := HZ2.out.cell 3 (by simp)
         have q4 := HZ2.out.cell 4 (by simp)
         have q5 := HZ2.out.cell 5 (by simp)
         have q6 := HZ2.out.cell 6 (by simp)
         have q7 := HZ2.out.cell 7 (by simp)
         simp only [List.getElem_cons_zero, List.getElem_cons_succ] at q0 q1 q2 q3 q4 q5 q6 q7
         have qf := fun o => HZ2.out.frozen o
         clear hb2)
      | (go_at_call 77
         (with_reducible refine (HSTEP.out _ ?_).mono ?_)
         · exact HW1.out.alloc HW1.out.size _
         rintro _ w2 ⟨rfl, hb2⟩
         have HW2 : Hid (Below w.heap.size w w2) := Lib.hid ((HW1.out.alloc HW1.out.size _).trans (hb2.mono (by have := HW1.out.size; simp; omega)))
         have HZ2 : Hid (Row .u32 w2 40 w1.heap.size [0, 0, 0, 0, 0, 0, 0, 0]) := Lib.hid ((Row.new w1 40 [0, 0, 0, 0, 0, 0, 0, 0]).below hb2 (by simp))
         have q0 := HZ2.out.cell 0 (by simp)
         have q1 := HZ2.out.cell 1 (by simp)
         have q2 := HZ2.out.cell 2 (by simp)
         have q3 := HZ2.out.cell 3 (by simp)
         have q4 := HZ2.out.cell 4 (by simp)
         have q5 := HZ2.out.cell 5 (by simp)
         have q6 := HZ2.out.cell 6 (by simp)
         have q7 := HZ2.out.cell 7 (by simp)
         simp only [List.getElem_cons_zero, List.getElem_cons_succ] at q0 q1 q2 q3 q4 q5 q6 q7
         have qf := fun o => HZ2.out.frozen o
         clear hb2)
      | (go_at_call 77
         (with_reducible refine (HSTEP.out _ ?_).mono ?_)
         · exact HW1.out
         rintro _ w2 ⟨rfl, hb2⟩
         have HW2 : Hid (Below w.heap.size w w2) := Lib.hid (HW1.out.trans (hb2.mono HW1.out.size))
         clear hb2))
    · go_wp2_with fail
      go_meet
      exact ⟨w2.heap.size, rfl, HW2.out.size, Row.new w2 40 [y0, y1, y2, y3, y4, y5, y6, y7], HW2.out.alloc HW2.out.size _⟩
    · go_wp2_with fail
      go_meet
      exact ⟨w1.heap.size, rfl, HW1.out.size, ((((((((HZ2.out.set 0 y0).set 1 y1).set 2 y2).set 3 y3).set 4 y4).set 5 y5).set 6 y6).set 7 y7), ((((((((HW2.out.setCell HW1.out.size _).setCell HW1.out.size _).setCell HW1.out.size _).setCell HW1.out.size _).setCell HW1.out.size _).setCell HW1.out.size _).setCell HW1.out.size _).setCell HW1.out.size _)⟩
    · go_wp2_with fail
      go_meet
      exact ⟨w.heap.size, rfl, Nat.le_refl _, ((((((((HZ2.out.set 0 y0).set 1 y1).set 2 y2).set 3 y3).set 4 y4).set 5 y5).set 6 y6).set 7 y7), ((((((((HW2.out.setCell (Nat.le_refl _) _).setCell (Nat.le_refl _) _).setCell (Nat.le_refl _) _).setCell (Nat.le_refl _) _).setCell (Nat.le_refl _) _).setCell (Nat.le_refl _) _).setCell (Nat.le_refl _) _).setCell (Nat.le_refl _) _)⟩
  case rest =>
    obtain ⟨gv, rfl, hgv, hrv, hbv⟩ := hcut
    have HRV := Lib.hid hrv
    have HBV := Lib.hid hbv
    clear hrv hbv HSTEP HFIRST
    go_upto_region 3 with fail
    have hn2 := HNM.out
    obtain ⟨qn, hq1, hq2, hq3, hq4⟩ := whole_blocks n m r hr hn2
    obtain ⟨a2, hif⟩ : ∃ a2, (if cap = 64 * m then a else a.map (fun x => x.add (64 * m))) = a2 := ⟨_, rfl⟩
    have hwt : ∀ W, Below wc.heap.size wc W → Calls Tryd.prog 79 #[.slice a2 (n - 64 * m) (cap - 64 * m), .int .i64 n] W (WithTailPost W (bs.drop (64 * m)) n) := fun W hW => by
      rw [← hif]
      exact withTail_any _ (n - 64 * m) (cap - 64 * m) n (bs.drop (64 * m)) W ((HIN.out.below (HBV.out.trans (hW.mono HBV.out.size))).behind (64 * m) (by omega)) (by omega) hn
    have hrl : (bs.drop (64 * m)).length = r := by rw [List.length_drop, HIN.out.len]; omega
    obtain ⟨z0, z1, z2, z3, z4, z5, z6, z7, hz⟩ := list_8 (stepsL [y0, y1, y2, y3, y4, y5, y6, y7] (bs.drop (64 * m) ++ tailL n) qn) (stepsL_length rfl _ qn)
    have hyb : Words32 [y0, y1, y2, y3, y4, y5, y6, y7] := by
      rw [← HY.out]
      exact stepsL_bd hTab_bd _ _
    have hst : ∀ W g4 cap4, Below wc.heap.size wc W → W.ownsRow wc.heap.size 5 1 (.slice (some ⟨g4, 0, none⟩) (r + (nils n + 9)) cap4) (r + (nils n + 9)) ((bs.drop (64 * m) ++ tailL n).map (Value.int .u8)) →
        Calls Tryd.prog 77 #[.agg #[.int .u32 y0, .int .u32 y1, .int .u32 y2, .int .u32 y3, .int .u32 y4, .int .u32 y5, .int .u32 y6, .int .u32 y7], .slice (some ⟨g4, 0, none⟩) (r + (nils n + 9)) cap4] W
          (fun e w' => e = .returned (.agg #[.int .u32 z0, .int .u32 z1, .int .u32 z2, .int .u32 z3, .int .u32 z4, .int .u32 z5, .int .u32 z6, .int .u32 z7]) ∧ Below W.heap.size W w') := fun W g4 cap4 hW ho => by
      have hbW : Below w.heap.size w W := HBV.out.trans (hW.mono HBV.out.size)
      have h := steps_any (some ⟨g4, 0, none⟩) (r + (nils n + 9)) cap4 qn [y0, y1, y2, y3, y4, y5, y6, y7] (bs.drop (64 * m) ++ tailL n) W rfl hyb (InBytes.of_own ho (app_bytes (fun z h => HIN.out.bytes z (List.mem_of_mem_drop h)) (tailL_bytes n))) hq3 (HT.out.below hbW (Nat.le_refl _)).kl
      unfold StepsPost at h
      rw [hz] at h
      exact h
    have hfin : sumL bs = bytesL [z0, z1, z2, z3, z4, z5, z6, z7] := by
      rw [← hz, sumL_parts bs m qn r hr (by rw [HIN.out.len]; exact hn2) (by rw [HIN.out.len]; exact hq4), HIN.out.len, HY.out]
    have hzb : Words32 [z0, z1, z2, z3, z4, z5, z6, z7] := by
      rw [← hz]
      exact stepsL_bd hyb _ _
    have HWT := Lib.hid hwt
    have HST := Lib.hid hst
    have HFIN := Lib.hid hfin
    have HZB := Lib.hid hzb
    have HRL := Lib.hid hrl
    have p0 := HRV.out.cell 0 (by simp)
    have p1 := HRV.out.cell 1 (by simp)
    have p2 := HRV.out.cell 2 (by simp)
    have p3 := HRV.out.cell 3 (by simp)
    have p4 := HRV.out.cell 4 (by simp)
    have p5 := HRV.out.cell 5 (by simp)
    have p6 := HRV.out.cell 6 (by simp)
    have p7 := HRV.out.cell 7 (by simp)
    simp only [List.getElem_cons_zero, List.getElem_cons_succ] at p0 p1 p2 p3 p4 p5 p6 p7
    have k5 : 64 * m ≤ n := by omega
    clear hwt hst hfin hzb hyb hrl hz hn2 hq1 hq2 hq3 hq4
    go_cut [4] (fun s4 wx => s4 = .pointer (some ⟨gv, 0, none⟩) ∧ Row .u32 wx 40 gv [z0, z1, z2, z3, z4, z5, z6, z7] ∧ Below w.heap.size w wx)
    case first =>
      go_region_with (first
        | (go_at_call 79
           (with_reducible refine (HWT.out _ ?_).mono ?_)
           · exact (Below.refl _ _).drew
           rintro _ w3 ⟨g4, cap4, rfl, ho4, hb3⟩
           rw [HRL.out] at ho4
           rw [HRL.out]
           have HO4 := Lib.hid ho4
           have HRX : Hid (Row .u32 w3 40 gv [y0, y1, y2, y3, y4, y5, y6, y7]) := Lib.hid (HRV.out.drew.below hb3 HRV.out.lt)
           have HW3 : Hid (Below wc.heap.size wc w3) := Lib.hid ((Below.refl _ _).drew.trans (hb3.mono (Nat.le_refl _)))
           have q0 := HRX.out.cell 0 (by simp); have q1 := HRX.out.cell 1 (by simp); have q2 := HRX.out.cell 2 (by simp); have q3 := HRX.out.cell 3 (by simp); have q4 := HRX.out.cell 4 (by simp); have q5 := HRX.out.cell 5 (by simp); have q6 := HRX.out.cell 6 (by simp); have q7 := HRX.out.cell 7 (by simp)
           simp only [List.getElem_cons_zero, List.getElem_cons_succ] at q0 q1 q2 q3 q4 q5 q6 q7
           clear ho4 hb3)
        | (go_at_call 77
           (with_reducible refine (HST.out _ _ _ ?_ ?_).mono ?_)
           · exact HW3.out
           · exact HO4.out
           rintro _ w4 ⟨rfl, hb4⟩
           have HR4 : Hid (Row .u32 w4 40 gv [y0, y1, y2, y3, y4, y5, y6, y7]) := Lib.hid (HRX.out.below hb4 HRX.out.lt)
           have HW4 : Hid (Below w.heap.size w w4) := Lib.hid ((HBV.out.trans (HW3.out.mono HBV.out.size)).trans (hb4.mono (Nat.le_trans HBV.out.size HW3.out.size)))
           have t0 := HR4.out.cell 0 (by simp)
           have t1 := HR4.out.cell 1 (by simp)
           have t2 := HR4.out.cell 2 (by simp)
           have t3 := HR4.out.cell 3 (by simp)
           have t4 := HR4.out.cell 4 (by simp)
           have t5 := HR4.out.cell 5 (by simp)
           have t6 := HR4.out.cell 6 (by simp)
           have t7 := HR4.out.cell 7 (by simp)
           have tf := fun o => HR4.out.frozen o
           clear hb4))
      all_goals
        go_wp2_with fail
        go_meet
        exact ⟨rfl, ((((((((HR4.out.set 0 z0).set 1 z1).set 2 z2).set 3 z3).set 4 z4).set 5 z5).set 6 z6).set 7 z7), ((((((((HW4.out.setCell hgv _).setCell hgv _).setCell hgv _).setCell hgv _).setCell hgv _).setCell hgv _).setCell hgv _).setCell hgv _)⟩
    case rest =>
      obtain ⟨rfl, hrz, hbz⟩ := hcut
      have HRZ := Lib.hid hrz
      have HBZ := Lib.hid hbz
      clear hrz hbz HWT HST p0 p1 p2 p3 p4 p5 p6 p7 hif
      have hsb : ∀ W, Calls Tryd.prog 80 #[.agg #[.int .u32 z0, .int .u32 z1, .int .u32 z2, .int .u32 z3, .int .u32 z4, .int .u32 z5, .int .u32 z6, .int .u32 z7]] W (StateBytesPost W [z0, z1, z2, z3, z4, z5, z6, z7]) := fun W => stateBytes_any [z0, z1, z2, z3, z4, z5, z6, z7] W rfl HZB.out
      have HSBY := Lib.hid hsb
      clear hsb
      go_wp2_with (first
        | (refine wpList_load_ints rfl 40 (.tmp 4) rfl gv rfl 40 .u32 [z0, z1, z2, z3, z4, z5, z6, z7] HRZ.out 8 39 Tryd.underlying40 sizeA8 ?_)
        | (go_at_call 80
           refine (HSBY.out _).mono ?_
           rintro _ w6 ⟨rfl, hr6, hb6⟩
           have HR6 := Lib.hid hr6
           have HB6 := Lib.hid hb6
           clear hr6 hb6))
      go_ret
      refine ⟨_, ?_, rfl, ?_, HBZ.out.trans (HB6.out.mono HBZ.out.size)⟩
      · have := HBZ.out.size
        omega
      · rw [HFIN.out]
        exact HR6.out
end Go.Proofs.YtkfjhegehhahcaaDoor

/- Facts on a sum's bytes. -/
namespace Go.Proofs.YtkfjhegehhahcaaDoor
open Go.RowKit
set_option linter.unusedVariables false

theorem bytesL_at (s : List Int) (i : Nat) (h : i < 4 * s.length) : (bytesL s).getD i 0 = s.getD (i / 4) 0 / 2 ^ (24 - 8 * (i % 4)) % 256 := by
  induction s generalizing i with
  | nil => simp at h
  | cons x r ih =>
    have hb : bytesL (x :: r) = be4 x ++ bytesL r := by simp [bytesL]
    rw [hb]
    by_cases hi : i < 4
    · have hd : i / 4 = 0 := by omega
      have hm : i % 4 = i := by omega
      rw [hd, hm]
      have : i = 0 ∨ i = 1 ∨ i = 2 ∨ i = 3 := by omega
      rcases this with rfl | rfl | rfl | rfl <;> simp [be4]
    · obtain ⟨j, rfl⟩ : ∃ j, i = 4 + j := ⟨i - 4, by omega⟩
      have ih2 := ih j (by simp at h; omega)
      rw [show (4 + j) / 4 = j / 4 + 1 by omega, show (4 + j) % 4 = j % 4 by omega]
      simp only [List.getD, List.getElem?_cons_succ] at ih2 ⊢
      rw [← ih2]
      rw [List.getElem?_append_right (by simp [be4])]
      simp [be4]

theorem sumL_length (bs : List Int) : (sumL bs).length = 32 := by
  unfold sumL
  rw [bytesL_length, stepsL_length rfl]
theorem sumL_bytes (bs : List Int) : Bytes8 (sumL bs) := bytesL_bytes _
end Go.Proofs.YtkfjhegehhahcaaDoor

/- The digest of a tree, as a function. No program is named here. -/
namespace Go.Proofs.YtkfjhegehhahcaaDoor
set_option linter.unusedVariables false

/-- The digest of a value: of a node's, or a dark node's own. -/
def valT (k : Nat) (t : Tr) : List Int := if t.k = 1 then (sumL (valL t.val)).take k else t.dig
/-- The digest of a tree by the width k; none: a digest in it has another width. -/
def digT (k : Nat) (t : Tr) : Option (List Int) := t.fold fun t rs =>
  if t.k = 0 then some ((sumL [3]).take k)
  else if t.k = 3 then (if t.dig.length = k then some t.dig else none)
  else if (valT k t).length ≠ k then none
  else match rs.getD 0 none, rs.getD 1 none with
    | some l, some r => some ((sumL (nodeL l ((sumL (pairL t.key (valT k t))).take k) r)).take k)
    | _, _ => none
theorem digT_0 {k : Nat} {t : Tr} (h : t.k = 0) : digT k t = some ((sumL [3]).take k) := by
  unfold digT
  rw [Tr.fold_eq, if_pos h]
theorem digT_3 {k : Nat} {t : Tr} (h : t.k = 3) : digT k t = if t.dig.length = k then some t.dig else none := by
  unfold digT
  rw [Tr.fold_eq, if_neg (by omega), if_pos h]
theorem digT_bad {k : Nat} {t : Tr} (h0 : t.k ≠ 0) (h3 : t.k ≠ 3) (hv : (valT k t).length ≠ k) : digT k t = none := by
  unfold digT
  rw [Tr.fold_eq, if_neg h0, if_neg h3, if_pos hv]
theorem digT_node {k : Nat} {t : Tr} (h0 : t.k ≠ 0) (h3 : t.k ≠ 3) (hv : (valT k t).length = k) (h2 : t.kids.length = 2) :
    digT k t = match digT k (t.kids[0]'(by omega)), digT k (t.kids[1]'(by omega)) with
    | some l, some r => some ((sumL (nodeL l ((sumL (pairL t.key (valT k t))).take k) r)).take k)
    | _, _ => none := by
  have e : digT k t = match (t.kids.map (digT k)).getD 0 none, (t.kids.map (digT k)).getD 1 none with
      | some l, some r => some ((sumL (nodeL l ((sumL (pairL t.key (valT k t))).take k) r)).take k)
      | _, _ => none := by
    conv => lhs; unfold digT
    rw [Tr.fold_eq, if_neg h0, if_neg h3, if_neg (by omega)]
    rfl
  rw [e]
  simp [List.getD, h2]
theorem take_sum_len {k : Nat} (hk : k ≤ 32) (bs : List Int) : ((sumL bs).take k).length = k := by
  rw [List.length_take, sumL_length]
  omega
theorem digT_len {k : Nat} (hk : k ≤ 32) {t : Tr} {zs : List Int} (h : digT k t = some zs) : zs.length = k := by
  unfold digT at h
  rw [Tr.fold_eq] at h
  split at h
  · injection h with h
    rw [← h]
    exact take_sum_len hk _
  · split at h
    · split at h
      · injection h with h
        rw [← h]
        assumption
      · cases h
    · split at h
      · cases h
      · split at h
        · injection h with h
          rw [← h]
          exact take_sum_len hk _
        · cases h
theorem valL_len (bs : List Int) : (valL bs).length = 1 + bs.length := by simp [valL]; omega
theorem nodeL_len (a b c : List Int) : (nodeL a b c).length = 1 + a.length + b.length + c.length := by simp [nodeL]; omega
theorem pairL_len {a b : List Int} (h : a.length ≤ 1000) : (pairL a b).length ≤ 10 + a.length + b.length := by
  have := numL_le (v := a.length) (by omega)
  simp only [pairL, bytL, List.length_cons, List.length_append]
  omega
end Go.Proofs.YtkfjhegehhahcaaDoor

/- The contracts of the program's Number and Bytes. -/
namespace Go.Proofs.YtkfjhegehhahcaaDoor
open Go.RowKit
set_option linter.unusedVariables false

theorem nd_of_len {v : Nat} {r : Int} (h : LenAt v r) : ∃ L : Nat, r = (L : Int) ∧ L ≤ 64 ∧ (L + 7) / 8 = nd v := by
  obtain ⟨k, l, rfl, h1, h2, h3, h4, h5⟩ := h
  have e0 : ((v : Int) / 256 ^ k) = ((v / 256 ^ k : Nat) : Int) := by rw [Int.natCast_ediv, Int.natCast_pow]; rfl
  rw [e0] at h3 h4
  have hn : k + 1 = nd v := by
    refine nd_unique ?_ (.inr ?_)
    · rw [← div_step]; omega
    · rw [Nat.add_sub_cancel]; omega
  exact ⟨8 * k + l.toNat, by omega, by omega, by omega⟩
theorem len64_any (v : Nat) (w : World) (hp : 0 < v) (hv : v < 18446744073709551616) :
    Calls Tryd.prog 93 #[.int .u64 v] w (fun e w' => (∃ L : Nat, e = .returned (.int .i64 L) ∧ L ≤ 64 ∧ (L + 7) / 8 = nd v) ∧ w' = w) :=
  (len64_raw v w (by omega) (by omega)).mono fun e w' ⟨⟨r, h1, h2⟩, h3⟩ => by
    obtain ⟨L, rfl, h⟩ := nd_of_len h2
    exact ⟨⟨L, h1, h⟩, h3⟩

/-- What has been written when i of the m bytes are there. -/
def part (m v i : Nat) : List Int := ((247 + m : Nat) : Int) :: (List.replicate (m - i) 0 ++ be i v)
theorem part_length (m v i : Nat) (h : i ≤ m) : (part m v i).length = m + 1 := by simp [part, be_length]; omega
theorem part_zero (m v : Nat) : part m v 0 = ((247 + m : Nat) : Int) :: List.replicate m 0 := by simp [part, be]
theorem part_set (m v i : Nat) (h : i < m) : (part m v i).set (m - i) ((v / 256 ^ i % 256 : Nat) : Int) = part m v (i + 1) := by
  have e1 : m - i = (m - (i + 1)) + 1 := by omega
  have e2 : List.replicate (m - i) (0 : Int) = List.replicate (m - (i + 1)) 0 ++ [0] := by rw [e1, List.replicate_succ']
  unfold part
  rw [e2]
  conv => lhs; rw [e1]
  rw [List.set_cons_succ, List.append_assoc, List.set_append_right _ _ (by simp)]
  simp [be]
theorem shr_is (v i : Nat) : (v : Int) / 2 ^ (8 * (i : Int)).toNat = ((v / 256 ^ i : Nat) : Int) := by
  rw [show (8 * (i : Int)).toNat = 8 * i by omega, Int.natCast_ediv, Int.natCast_pow, Int.pow_mul]
  rfl

set_option maxRecDepth 100000 in
set_option maxHeartbeats 2000000 in
theorem number_any (v : Nat) (w : World) (hv : v < 18446744073709551616) :
    Calls Tryd.prog 88 #[.int .u64 v] w (OwnPost w (numL v)) := by
  obtain ⟨i0, hi0, hz0, hz1, hz2⟩ := info_parts infoU8
  go_enter Tryd.func88, Tryd.ntmps88
  by_cases h : v < 248
  · have hb : (v : Int) ≤ 247 := by omega
    go_wp2_with fail
    go_ret
    have e : numL v = [(v : Int)] := by unfold numL; rw [if_pos h]
    rw [e]
    exact ⟨w.heap.size, 1, rfl, own_new w 5 .u8 [(v : Int)] w.heap.size (Nat.le_refl _) (by simp [maxLen]), (Below.refl _ _).alloc (Nat.le_refl _) _⟩
  · have hb : ¬ (v : Int) ≤ 247 := by omega
    have hm1 := nd_one (v := v) (by omega)
    have hm8 := nd_64 hv
    have hlen := Lib.hid (fun W => len64_any v W (by omega) hv)
    obtain ⟨m, hm⟩ : ∃ m, m = nd v := ⟨_, rfl⟩
    rw [← hm] at hm1 hm8 hlen
    have HM := Lib.hid hm
    clear hm
    go_wp2_with (first
      | (go_at_call 93
         (with_reducible refine (hlen.out _).mono ?_)
         rintro _ w1 ⟨⟨L, rfl, hL1, hL2⟩, rfl⟩
         have hLq : ((L : Int) + 7) / 8 = (m : Int) := by omega
         have hLq2 : ((L : Int) + 7).tdiv 8 = (m : Int) := by rw [Int.tdiv_eq_ediv_of_nonneg (by omega)]; exact hLq)
      | (at_make
         refine wpList_make_ints _ rfl (.tmp 16) (.tmp 16) 22 rfl 5 i0 .u8 Tryd.underlying22 hi0 hz0 hz1 .i64 .i64 _ _ (1 + m) rfl rfl (by push_cast; omega) (by push_cast; omega) (by rw [hz2]; omega) (by simp only [maxLen]; omega) ?_
         intro w2 hr2 hb2 hs2
         obtain ⟨z0, hc0⟩ := hr2.has 0 (by simp; omega)
         have hf0 := hr2.frozen 0
         have HR2 := Lib.hid hr2
         have HB2 := Lib.hid hb2
         clear hr2 hs2 hb2))
    have hrow : Row .u8 (w2.setCell ⟨w1.heap.size, 0, none⟩ (.int .u8 (247 + (m : Int)))) 5 w1.heap.size (part m v 0) := by
      have h := HR2.out.set 0 (247 + (m : Int))
      rw [part_zero, show (((247 + m : Nat)) : Int) = 247 + (m : Int) by omega]
      rwa [Nat.add_comm 1 m, List.replicate_succ, List.set_cons_zero] at h
    have hbel : Below w1.heap.size w1 (w2.setCell ⟨w1.heap.size, 0, none⟩ (.int .u8 (247 + (m : Int)))) := HB2.out.setCell (Nat.le_refl _) _
    have H0 := Lib.hid (And.intro hrow hbel)
    clear hrow hbel HR2 HB2 hc0 hf0 hLq hLq2 hL1 hL2 hlen
    go_loopw [24] (fun s24 wx => ∃ i : Nat, i ≤ m ∧ s24 = .int .i64 i ∧ Row .u8 wx 5 w1.heap.size (part m v i) ∧ Below w1.heap.size w1 wx) (fun s24 _ => m - (intOf s24).toNat)
    case atStart => exact ⟨0, by omega, rfl, H0.out.1, H0.out.2⟩
    case round =>
      obtain ⟨i, hi, rfl, hr, hbl⟩ := hrel
      by_cases hlt : i < m
      · have q1 : (i : Int) < (m : Int) := by omega
        have q2 : (0 : Int) ≤ (m : Int) - (i : Int) := by omega
        have q3 : (m : Int) - (i : Int) < 1 + (m : Int) := by omega
        have q4 : ((m : Int) - (i : Int)).toNat = m - i := by omega
        have q5 : (0 : Int) ≤ 8 * (i : Int) := by omega
        have q6 : 8 * (i : Int) ≤ 64 := by omega
        obtain ⟨z, hc⟩ := hr.has (m - i) (by rw [part_length _ _ _ hi]; omega)
        have hf := hr.frozen (m - i)
        have hsh := shr_is v i
        have HR := Lib.hid hr
        have HB := Lib.hid hbl
        have hset := part_set m v i hlt
        have HSET := Lib.hid hset
        clear hr hbl hset H0
        go_wp2_with fail
        have e : ((v : Int) / 256 ^ i % 256) = ((v / 256 ^ i % 256 : Nat) : Int) := by push_cast; rfl
        rw [e]
        refine ⟨⟨i + 1, by omega, by go_num, ?_, HB.out.setCell (Nat.le_refl _) _⟩, by simp [intOf]; omega⟩
        rw [← HSET.out]
        exact HR.out.set _ _
      · obtain rfl : i = m := by omega
        have q1 : ¬ (i : Int) < (i : Int) := by omega
        have HR := Lib.hid hr
        have HB := Lib.hid hbl
        clear hr hbl H0
        go_wp2_with fail
        go_ret
        have hm := HM.out
        have e : numL v = part i v i := by unfold numL part; rw [if_neg h, ← hm]; simp
        have hl := part_length i v i hi
        have hr := HR.out
        rw [e]
        refine ⟨w1.heap.size, i + 1, by rw [hl, Nat.add_comm 1 i]; rfl, ?_, HB.out⟩
        rw [hl]
        exact ⟨by simp [hl], .inr ⟨w1.heap.size, i + 1, _, rfl, Nat.le_refl _, hr, Nat.le_refl _, by simp only [maxLen]; omega, by simp [hl], by rw [Nat.mul_one]; exact List.take_of_length_le (by simp [hl])⟩⟩

set_option maxRecDepth 100000 in
set_option maxHeartbeats 2000000 in
theorem bytes_any (a : Option Addr) (n cap : Nat) (bs : List Int) (w : World) (hin : InBytes w a n cap bs) (hn : n ≤ 140737488351232) :
    Calls Tryd.prog 81 #[.slice a n cap] w (OwnPost w (bytL bs)) := by
  obtain ⟨i0, hi0, hz0, hz1, hz2⟩ := info_parts infoU8
  have hlen := hin.len
  have h9 := numL_le (v := n) (by omega)
  have hnum := Lib.hid (fun W => number_any n W (by omega))
  have HIN := Lib.hid hin
  clear hin
  go_enter Tryd.func81, Tryd.ntmps81
  go_wp2_with (first
    | (go_at_call 88
       (with_reducible refine (hnum.out _).mono ?_)
       rintro _ w1 ⟨g1, c1, rfl, hown1, hb1⟩
       have HO1 := Lib.hid hown1
       have HB1 := Lib.hid hb1
       clear hown1 hb1)
    | (at_builtin
       refine wpList_append_bytes' _ rfl (.tmp 6) (.tmp 7) 22 rfl w.heap.size 5 i0 _ 1 Tryd.underlying22 hi0 hz0 hz1 hz2 rfl g1 (numL n).length c1 ((numL n).map (Value.int .u8)) rfl HO1.out a n cap bs rfl (HIN.out.below HB1.out) (by simp only [maxLen]; omega) (by omega) HB1.out.size ?_
       intro g2 c2 w2 hown2 hg2
       have HO2 := Lib.hid hown2
       have HB2 : Hid (Below w.heap.size w w2) := Lib.hid (below_only HB1.out hg2 HB1.out.size (HO1.out.lt g1 rfl).1)
       clear hown2 hg2))
  go_ret
  have e : (bytL bs).length = (numL n).length + n := by unfold bytL; rw [List.length_append, hlen]
  refine ⟨g2, c2, by rw [e]; rfl, ?_, HB2.out⟩
  rw [e]
  have h := HO2.out
  rw [← List.map_append] at h
  unfold bytL
  rw [hlen]
  exact h
end Go.Proofs.YtkfjhegehhahcaaDoor

/- The contracts of the program's preimages. -/
namespace Go.Proofs.YtkfjhegehhahcaaDoor
open Go.RowKit
set_option linter.unusedVariables false

/-- New memory that holds the bytes zs, and no error. -/
def OwnPost2 (w : World) (zs : List Int) (e : Ending) (w' : World) : Prop :=
  ∃ g c, e = .returned (.tuple #[.slice (some ⟨g, 0, none⟩) zs.length c, .nilIface]) ∧ w'.ownsRow w.heap.size 5 1 (.slice (some ⟨g, 0, none⟩) zs.length c) zs.length (zs.map (Value.int .u8)) ∧ Below w.heap.size w w'
/-- No bytes, and the error ErrArg. -/
def ArgPost (w : World) (e : Ending) (w' : World) : Prop :=
  e = .returned (.tuple #[.slice none 0 0, .iface 34 (.int .i64 1)]) ∧ Below w.heap.size w w'

set_option maxRecDepth 100000 in
set_option maxHeartbeats 2000000 in
/-- isWidth is true from 1 to 32, and changes nothing. -/
theorem width_ok (x : Int) (w : World) (hx1 : 1 ≤ x) (hx2 : x ≤ 32) :
    Calls Tryd.prog 62 #[.int .i64 x] w (fun e w' => e = .returned (.bool true) ∧ w' = w) := by
  go_enter Tryd.func62, Tryd.ntmps62
  go_wp2
  go_ret
  exact ⟨by simp, rfl⟩
set_option maxRecDepth 100000 in
set_option maxHeartbeats 2000000 in
/-- isWidth is false elsewhere, and changes nothing. -/
theorem width_no (x : Int) (w : World) (hx1 : -9223372036854775808 ≤ x) (hx2 : x ≤ 9223372036854775807) (hx : ¬ (1 ≤ x ∧ x ≤ 32)) :
    Calls Tryd.prog 62 #[.int .i64 x] w (fun e w' => e = .returned (.bool false) ∧ w' = w) := by
  by_cases h : 1 ≤ x
  · go_enter Tryd.func62, Tryd.ntmps62
    go_wp2
    go_ret
    exact ⟨by simp; omega, rfl⟩
  · go_enter Tryd.func62, Tryd.ntmps62
    go_wp2
    go_ret
    exact ⟨by simp, rfl⟩
set_option maxRecDepth 100000 in
set_option maxHeartbeats 2000000 in
theorem value_any (a : Option Addr) (n cap : Nat) (bs : List Int) (w : World) (hin : InBytes w a n cap bs) (hn : n ≤ 140737488351232) :
    Calls Tryd.prog 64 #[.slice a n cap] w (OwnPost w (valL bs)) := by
  obtain ⟨i0, hi0, hz0, hz1, hz2⟩ := info_parts infoU8
  have hbl := hin.len
  have HIN := Lib.hid hin
  clear hin
  go_enter Tryd.func64, Tryd.ntmps64
  go_wp2_with (first
    | (at_builtin
       refine wpList_append_bytes' _ rfl (.tmp 3) (.tmp 4) 22 rfl w.heap.size 5 i0 _ 1 Tryd.underlying22 hi0 hz0 hz1 hz2 rfl w.heap.size 1 1 [.int .u8 0] rfl (own_new w 5 .u8 [0] w.heap.size (Nat.le_refl _) (by simp [maxLen])) a n cap bs rfl (HIN.out.below ((Below.refl _ _).alloc (Nat.le_refl _) _)) (by simp only [maxLen]; omega) (by omega) (by simp) ?_
       intro g1 c1 w1 hown1 hg1
       have HO1 := Lib.hid (own_app (xs := [0]) (ys := bs) hown1 rfl hbl.symm)
       have HB1 : Hid (Below w.heap.size w w1) := Lib.hid (below_only ((Below.refl _ _).alloc (Nat.le_refl _) _) hg1 (by simp) (Nat.le_refl _))
       clear hown1 hg1))
  go_ret
  have e : (valL bs).length = 1 + n := by simp [valL, hbl]; omega
  exact ⟨g1, c1, by rw [e]; rfl, HO1.out, HB1.out⟩
set_option maxRecDepth 100000 in
set_option maxHeartbeats 2000000 in
theorem none_any (w : World) : Calls Tryd.prog 37 #[] w (OwnPost w [3]) := by
  go_enter Tryd.func37, Tryd.ntmps37
  go_wp2
  go_ret
  exact ⟨w.heap.size, 1, rfl, own_new w 5 .u8 [3] w.heap.size (Nat.le_refl _) (by simp [maxLen]), (Below.refl _ _).alloc (Nat.le_refl _) _⟩
set_option maxRecDepth 100000 in
set_option maxHeartbeats 2000000 in
theorem pair_ok (x : Int) (a : Option Addr) (n cap : Nat) (bs : List Int) (a2 : Option Addr) (n2 cap2 : Nat) (ds : List Int) (w : World) (hin : InBytes w a n cap bs) (hn : n ≤ 140737488351232) (hin2 : InBytes w a2 n2 cap2 ds) (hx0 : 1 ≤ x) (hx1 : x ≤ 32) (hx : (n2 : Int) = x) :
    Calls Tryd.prog 65 #[.int .i64 x, .slice a n cap, .slice a2 n2 cap2] w (OwnPost2 w (pairL bs ds)) := by
  obtain ⟨i0, hi0, hz0, hz1, hz2⟩ := info_parts infoU8
  have hbl := hin.len
  have hbl2 := hin2.len
  have h8 := bytL_bytes hin.bytes (by omega)
  have h9 := numL_le (v := n) (by omega)
  have hlen : (bytL bs).length = (numL n).length + n := by unfold bytL; rw [List.length_append, hbl]
  have HIN := Lib.hid hin
  have HIN2 := Lib.hid hin2
  have H8 := Lib.hid h8
  obtain ⟨bl, hble⟩ : ∃ bl, bl = (bytL bs).length := ⟨_, rfl⟩
  have HBL := Lib.hid hble
  have hbl3 : bl ≤ n + 9 := by omega
  clear hin hin2 h8 hble hlen h9
  go_enter Tryd.func65, Tryd.ntmps65
  go_wp2_with (first
    | (go_at_call 62
       (with_reducible refine (width_ok x _ (by omega) (by omega)).mono ?_)
       rintro _ w9 ⟨rfl, hw9⟩
       rw [hw9]
       clear hw9)
    | (go_at_call 81
       (with_reducible refine (bytes_any a n cap bs _ ?_ hn).mono ?_)
       · exact HIN.out.below ((Below.refl _ _).alloc (Nat.le_refl _) _)
       rintro _ w1 ⟨g1, c1, rfl, ho1, hb1⟩
       rw [← HBL.out] at ho1 ⊢
       have HI1 := Lib.hid (InBytes.of_own ho1 H8.out)
       have HO0 := Lib.hid (own_below (own_new w 5 .u8 [1] w.heap.size (Nat.le_refl _) (by simp [maxLen])) hb1 (by simp))
       have HB1 : Hid (Below w.heap.size w w1) := Lib.hid ((((Below.refl w.heap.size w).alloc (Nat.le_refl _) _)).trans (hb1.mono (by simp)))
       clear ho1 hb1)
    | (at_builtin
       refine wpList_append_bytes' _ rfl (.tmp 19) (.tmp 21) 22 rfl w.heap.size 5 i0 _ 1 Tryd.underlying22 hi0 hz0 hz1 hz2 rfl w.heap.size 1 1 [.int .u8 1] rfl HO0.out (some ⟨g1, 0, none⟩) bl c1 (bytL bs) rfl HI1.out (by simp only [maxLen]; omega) (by omega) HB1.out.size ?_
       intro g2 c2 w2 hown2 hg2
       have hown2' := own_app (xs := [1]) (ys := bytL bs) hown2 rfl HBL.out
       have e2 : ([1] ++ bytL bs).length = 1 + bl := by rw [List.length_append, ← HBL.out]; rfl
       rw [e2] at hown2'
       have HO2 := Lib.hid hown2'
       have HB2 : Hid (Below w.heap.size w w2) := Lib.hid (below_only HB1.out hg2 HB1.out.size (Nat.le_refl _))
       clear hown2 hg2 hown2' e2)
    | (at_builtin
       refine wpList_append_bytes' _ rfl (.tmp 23) (.tmp 24) 22 rfl w.heap.size 5 i0 _ 1 Tryd.underlying22 hi0 hz0 hz1 hz2 rfl g2 (1 + bl) c2 (([1] ++ bytL bs).map (Value.int .u8)) rfl HO2.out a2 n2 cap2 ds rfl (HIN2.out.below HB2.out) (by simp only [maxLen]; omega) (by omega) HB2.out.size ?_
       intro g3 c3 w3 hown3 hg3
       have HO3 := Lib.hid (own_app (xs := [1] ++ bytL bs) (ys := ds) hown3 (by rw [List.length_append, ← HBL.out]; rfl) hbl2.symm)
       have HB3 : Hid (Below w.heap.size w w3) := Lib.hid (below_only HB2.out hg3 HB2.out.size (HO2.out.lt g2 rfl).1)
       clear hown3 hg3))
  go_ret2
  have e : pairL bs ds = [1] ++ bytL bs ++ ds := by unfold pairL; simp
  have e2 : (pairL bs ds).length = 1 + bl + n2 := by rw [e, List.length_append, List.length_append, ← HBL.out, hbl2]; rfl
  refine ⟨g3, c3, by rw [e2]; rfl, ?_, HB3.out⟩
  rw [e]
  exact HO3.out
set_option maxRecDepth 100000 in
set_option maxHeartbeats 2000000 in
theorem pair_bad (x : Int) (a : Option Addr) (n cap : Nat) (bs : List Int) (a2 : Option Addr) (n2 cap2 : Nat) (ds : List Int) (w : World) (hin : InBytes w a n cap bs) (hn : n ≤ 140737488351232) (hin2 : InBytes w a2 n2 cap2 ds) (hn2 : n2 ≤ 140737488351232) (hx1 : -9223372036854775808 ≤ x) (hx2 : x ≤ 9223372036854775807) (hx : ¬ (1 ≤ x ∧ x ≤ 32 ∧ (n2 : Int) = x)) :
    Calls Tryd.prog 65 #[.int .i64 x, .slice a n cap, .slice a2 n2 cap2] w (ArgPost w) := by
  have hl := hin2.len
  clear hin hin2
  by_cases hw : 1 ≤ x ∧ x ≤ 32
  · go_enter Tryd.func65, Tryd.ntmps65
    go_wp2_with (first
      | (go_at_call 62
         (with_reducible refine (width_ok x _ (by omega) (by omega)).mono ?_)
         rintro _ w9 ⟨rfl, hw9⟩
         rw [hw9]
         clear hw9))
    go_ret2
    exact ⟨rfl, Below.refl _ _⟩
  · go_enter Tryd.func65, Tryd.ntmps65
    go_wp2_with (first
      | (go_at_call 62
         (with_reducible refine (width_no x _ hx1 hx2 (by omega)).mono ?_)
         rintro _ w9 ⟨rfl, hw9⟩
         rw [hw9]
         clear hw9))
    go_ret2
    exact ⟨rfl, Below.refl _ _⟩
set_option maxRecDepth 100000 in
set_option maxHeartbeats 2000000 in
theorem node_ok (x : Int) (a : Option Addr) (n cap : Nat) (ls : List Int) (a2 : Option Addr) (n2 cap2 : Nat) (ps : List Int) (a3 : Option Addr) (n3 cap3 : Nat) (rs : List Int) (w : World) (hin : InBytes w a n cap ls) (hin2 : InBytes w a2 n2 cap2 ps) (hin3 : InBytes w a3 n3 cap3 rs) (hx0 : 1 ≤ x) (hx1 : x ≤ 32) (h1 : (n : Int) = x) (h2 : (n2 : Int) = x) (h3 : (n3 : Int) = x) :
    Calls Tryd.prog 40 #[.int .i64 x, .slice a n cap, .slice a2 n2 cap2, .slice a3 n3 cap3] w (OwnPost2 w (nodeL ls ps rs)) := by
  obtain ⟨i0, hi0, hz0, hz1, hz2⟩ := info_parts infoU8
  have hl1 := hin.len
  have hl2 := hin2.len
  have hl3 := hin3.len
  have HIN := Lib.hid hin
  have HIN2 := Lib.hid hin2
  have HIN3 := Lib.hid hin3
  clear hin hin2 hin3
  go_enter Tryd.func40, Tryd.ntmps40
  go_wp2_with (first
    | (go_at_call 62
       (with_reducible refine (width_ok x _ (by omega) (by omega)).mono ?_)
       rintro _ w9 ⟨rfl, hw9⟩
       rw [hw9]
       clear hw9)
    | (at_builtin
       refine wpList_append_bytes' _ rfl (.tmp 33) (.tmp 34) 22 rfl w.heap.size 5 i0 _ 1 Tryd.underlying22 hi0 hz0 hz1 hz2 rfl w.heap.size 1 1 [.int .u8 2] rfl (own_new w 5 .u8 [2] w.heap.size (Nat.le_refl _) (by simp [maxLen])) a n cap ls rfl (HIN.out.below ((Below.refl _ _).alloc (Nat.le_refl _) _)) (by simp only [maxLen]; omega) (by omega) (by simp) ?_
       intro g1 c1 w1 hown1 hg1
       have hown1' := own_app (xs := [2]) (ys := ls) hown1 rfl hl1.symm
       have e1 : ([2] ++ ls).length = 1 + n := by rw [List.length_append, hl1]; rfl
       rw [e1] at hown1'
       have HO1 := Lib.hid hown1'
       have HB1 : Hid (Below w.heap.size w w1) := Lib.hid (below_only ((Below.refl _ _).alloc (Nat.le_refl _) _) hg1 (by simp) (Nat.le_refl _))
       clear hown1 hg1 hown1' e1)
    | (at_builtin
       refine wpList_append_bytes' _ rfl (.tmp 36) (.tmp 37) 22 rfl w.heap.size 5 i0 _ 1 Tryd.underlying22 hi0 hz0 hz1 hz2 rfl g1 (1 + n) c1 (([2] ++ ls).map (Value.int .u8)) rfl HO1.out a2 n2 cap2 ps rfl (HIN2.out.below HB1.out) (by simp only [maxLen]; omega) (by omega) HB1.out.size ?_
       intro g2 c2 w2 hown2 hg2
       have hown2' := own_app (xs := [2] ++ ls) (ys := ps) hown2 (by rw [List.length_append, hl1]; rfl) hl2.symm
       have e2 : ([2] ++ ls ++ ps).length = 1 + n + n2 := by rw [List.length_append, List.length_append, hl1, hl2]; rfl
       rw [e2] at hown2'
       have HO2 := Lib.hid hown2'
       have HB2 : Hid (Below w.heap.size w w2) := Lib.hid (below_only HB1.out hg2 HB1.out.size (HO1.out.lt g1 rfl).1)
       clear hown2 hg2 hown2' e2)
    | (at_builtin
       refine wpList_append_bytes' _ rfl (.tmp 39) (.tmp 40) 22 rfl w.heap.size 5 i0 _ 1 Tryd.underlying22 hi0 hz0 hz1 hz2 rfl g2 (1 + n + n2) c2 (([2] ++ ls ++ ps).map (Value.int .u8)) rfl HO2.out a3 n3 cap3 rs rfl (HIN3.out.below HB2.out) (by simp only [maxLen]; omega) (by omega) HB2.out.size ?_
       intro g3 c3 w3 hown3 hg3
       have HO3 := Lib.hid (own_app (xs := [2] ++ ls ++ ps) (ys := rs) hown3 (by rw [List.length_append, List.length_append, hl1, hl2]; rfl) hl3.symm)
       have HB3 : Hid (Below w.heap.size w w3) := Lib.hid (below_only HB2.out hg3 HB2.out.size (HO2.out.lt g2 rfl).1)
       clear hown3 hg3))
  go_ret2
  have e : nodeL ls ps rs = [2] ++ ls ++ ps ++ rs := by unfold nodeL; simp
  have e2 : (nodeL ls ps rs).length = 1 + n + n2 + n3 := by rw [e, List.length_append, List.length_append, List.length_append, hl1, hl2, hl3]; rfl
  refine ⟨g3, c3, by rw [e2]; rfl, ?_, HB3.out⟩
  rw [e]
  exact HO3.out
set_option maxRecDepth 100000 in
set_option maxHeartbeats 2000000 in
theorem node_bad (x : Int) (a : Option Addr) (n cap : Nat) (ls : List Int) (a2 : Option Addr) (n2 cap2 : Nat) (ps : List Int) (a3 : Option Addr) (n3 cap3 : Nat) (rs : List Int) (w : World) (hin : InBytes w a n cap ls) (hn : n ≤ 140737488351232) (hin2 : InBytes w a2 n2 cap2 ps) (hn2 : n2 ≤ 140737488351232) (hin3 : InBytes w a3 n3 cap3 rs) (hn3 : n3 ≤ 140737488351232) (hx1 : -9223372036854775808 ≤ x) (hx2 : x ≤ 9223372036854775807)
    (hx : ¬ (1 ≤ x ∧ x ≤ 32 ∧ (n : Int) = x ∧ (n2 : Int) = x ∧ (n3 : Int) = x)) :
    Calls Tryd.prog 40 #[.int .i64 x, .slice a n cap, .slice a2 n2 cap2, .slice a3 n3 cap3] w (ArgPost w) := by
  clear hin hin2 hin3
  by_cases hw : 1 ≤ x ∧ x ≤ 32
  · by_cases h1 : (n : Int) = x
    · by_cases h2 : (n2 : Int) = x
      · go_enter Tryd.func40, Tryd.ntmps40
        go_wp2_with (first
          | (go_at_call 62
             (with_reducible refine (width_ok x _ (by omega) (by omega)).mono ?_)
             rintro _ w9 ⟨rfl, hw9⟩
             rw [hw9]
             clear hw9))
        go_ret2
        exact ⟨rfl, Below.refl _ _⟩
      · go_enter Tryd.func40, Tryd.ntmps40
        go_wp2_with (first
          | (go_at_call 62
             (with_reducible refine (width_ok x _ (by omega) (by omega)).mono ?_)
             rintro _ w9 ⟨rfl, hw9⟩
             rw [hw9]
             clear hw9))
        go_ret2
        exact ⟨rfl, Below.refl _ _⟩
    · go_enter Tryd.func40, Tryd.ntmps40
      go_wp2_with (first
        | (go_at_call 62
           (with_reducible refine (width_ok x _ (by omega) (by omega)).mono ?_)
           rintro _ w9 ⟨rfl, hw9⟩
           rw [hw9]
           clear hw9))
      go_ret2
      exact ⟨rfl, Below.refl _ _⟩
  · go_enter Tryd.func40, Tryd.ntmps40
    go_wp2_with (first
      | (go_at_call 62
         (with_reducible refine (width_no x _ hx1 hx2 (by omega)).mono ?_)
         rintro _ w9 ⟨rfl, hw9⟩
         rw [hw9]
         clear hw9))
    go_ret2
    exact ⟨rfl, Below.refl _ _⟩
end Go.Proofs.YtkfjhegehhahcaaDoor

/- The contract of the program's digest. -/
namespace Go.Proofs.YtkfjhegehhahcaaDoor
open Go.RowKit
set_option linter.unusedVariables false

/-- A slice of new memory, the first k bytes of a sum, and no error. -/
def OfPost2 (w : World) (k : Nat) (bs : List Int) (e : Ending) (w' : World) : Prop :=
  ∃ g, w.heap.size ≤ g ∧ e = .returned (.tuple #[.slice (some ⟨g, 0, none⟩) k k, .nilIface]) ∧ Row .u8 w' 5 g (sumL bs) ∧ Below w.heap.size w w'

set_option maxRecDepth 100000 in
set_option maxHeartbeats 2000000 in
theorem of_ok (k : Nat) (a : Option Addr) (n cap : Nat) (bs : List Int) (w : World) (hin : InBytes w a n cap bs) (hn : (n : Int) ≤ 1125899906842624) (hT : TabLies w) (hk1 : 1 ≤ k) (hk2 : k ≤ 32) :
    Calls Tryd.prog 36 #[.int .i64 k, .slice a n cap] w (OfPost2 w k bs) := by
  have HS := Lib.hid (Sum_any a n cap bs w hin hn hT)
  have hk3 : (k : Int) ≤ 32 := by omega
  have hk4 : (0 : Int) ≤ (k : Int) := by omega
  clear hin hT
  go_enter Tryd.func36, Tryd.ntmps36
  go_wp2_with (first
    | (go_at_call 62
       (with_reducible refine (width_ok _ _ (by omega) (by omega)).mono ?_)
       rintro _ w9 ⟨rfl, hw9⟩
       rw [hw9]
       clear hw9)
    | (go_at_call 63
       (with_reducible refine HS.out.mono ?_)
       rintro _ w1 ⟨g1, hg1, rfl, hr1, hb1⟩
       have H1 := Lib.hid (And.intro hg1 (And.intro hr1 hb1))
       clear hg1 hr1 hb1))
  go_ret2
  obtain ⟨hg1, hr1, hb1⟩ := H1.out
  exact ⟨g1, hg1, rfl, hr1, hb1⟩

set_option maxRecDepth 100000 in
set_option maxHeartbeats 2000000 in
theorem of_bad (x : Int) (a : Option Addr) (n cap : Nat) (w : World) (hx1 : -9223372036854775808 ≤ x) (hx2 : x ≤ 9223372036854775807) (hx : ¬ (1 ≤ x ∧ x ≤ 32)) :
    Calls Tryd.prog 36 #[.int .i64 x, .slice a n cap] w (ArgPost w) := by
  go_enter Tryd.func36, Tryd.ntmps36
  go_wp2_with (first
    | (go_at_call 62
       (with_reducible refine (width_no x _ hx1 hx2 hx).mono ?_)
       rintro _ w9 ⟨rfl, hw9⟩
       rw [hw9]
       clear hw9))
  go_ret2
  exact ⟨rfl, Below.refl _ _⟩

/-- The first k bytes of a sum, as an argument of capacity 32. -/
theorem of_in32 {w : World} {g k : Nat} {bs : List Int} {t : TypeId} (h : Row .u8 w t g (sumL bs)) (hk : k ≤ 32) : InBytes w (some ⟨g, 0, none⟩) k 32 ((sumL bs).take k) := by
  have hsl32 := sumL_length bs
  have h1 := InBytes.of_row h (sumL_bytes bs) (by rw [hsl32]; omega)
  rw [hsl32] at h1
  exact h1.upto k hk
/-- The first k bytes of a sum, as an argument of capacity k. -/
theorem of_in {w : World} {g k : Nat} {bs : List Int} {t : TypeId} (h : Row .u8 w t g (sumL bs)) (hk : k ≤ 32) : InBytes w (some ⟨g, 0, none⟩) k k ((sumL bs).take k) :=
  have h1 := of_in32 h hk
  ⟨h1.len, h1.bytes, Nat.le_refl _, by simp only [maxLen]; omega, (fun h => by cases h), h1.place⟩
theorem cvOf2 {w : World} {g k : Nat} {bs : List Int} (h : Row .u8 w 5 g (sumL bs)) (hk : k ≤ 32) : (convert 22 9 (.slice (some ⟨g, 0, none⟩) k k)).run Tryd.prog w = .ok (.string (strOfNums ((sumL bs).take k))) w :=
  conv_in (P := Tryd.prog) (of_in h hk) 22 5 9 Tryd.underlying22 Tryd.underlying5 Tryd.underlying9
end Go.Proofs.YtkfjhegehhahcaaDoor

/- The contracts of the program's digests of a tree's parts. -/
namespace Go.Proofs.YtkfjhegehhahcaaDoor
open Go.RowKit
set_option linter.unusedVariables false

/-- Bytes in new memory. -/
structure NewB (w w' : World) (a : Option Addr) (n c : Nat) (zs : List Int) : Prop where
  inb : InBytes w' a n c zs
  new : ∀ ad, a = some ad → w.heap.size ≤ ad.block
  free : ∀ ad o, a = some ad → w'.frozen? ⟨ad.block, o, none⟩ = false
/-- No bytes, and an error. -/
def ErrPost (w : World) (k : Nat) (e : Ending) (w' : World) : Prop := ∃ a c, e = .returned (.tuple #[.slice a 0 c, codeV k]) ∧ Below w.heap.size w w'
/-- New bytes, and no error. -/
def BytesPost (w : World) (zs : List Int) (e : Ending) (w' : World) : Prop := ∃ a c, e = .returned (.tuple #[.slice a zs.length c, .nilIface]) ∧ NewB w w' a zs.length c zs ∧ Below w.heap.size w w'
theorem own_free {w : World} {base g n c : Nat} {e : TypeId} {xs : List Value} (h : w.ownsRow base e 1 (.slice (some ⟨g, 0, none⟩) n c) n xs) (o : Nat) : base ≤ g ∧ w.frozen? ⟨g, o, none⟩ = false := by
  rcases h.2 with ⟨h1, _⟩ | ⟨g', cap, cur, h1, h2, h3, _⟩
  · cases h1
  · injection h1 with h1
    injection h1 with h1
    injection h1 with h1
    subst h1
    exact ⟨h2, by simp [World.frozen?, h3]⟩
/-- What digest.Of answers is bytes in new memory. -/
theorem OfPost2.bytes {w w' : World} {k : Nat} {bs : List Int} {e : Ending} (hk : k ≤ 32) (h : OfPost2 w k bs e w') : BytesPost w ((sumL bs).take k) e w' := by
  obtain ⟨g, hg, rfl, hr, hb⟩ := h
  have hl := take_sum_len hk bs
  refine ⟨some ⟨g, 0, none⟩, k, by rw [hl], ⟨by rw [hl]; exact of_in hr hk, fun ad h => ?_, fun ad o h => ?_⟩, hb⟩
  · injection h with h
    rw [← h]
    exact hg
  · injection h with h
    rw [← h]
    exact hr.frozen o

set_option maxRecDepth 100000 in
set_option maxHeartbeats 4000000 in
theorem cloneN_any (ad : Addr) (n cap : Nat) (bs : List Int) (w : World) (hin : InBytes w (some ad) n cap bs) (hn : n ≤ 140737488355328) :
    Calls Tryd.prog 38 #[.slice (some ad) n cap] w (fun e w' => ∃ g c, e = .returned (.slice (some ⟨g, 0, none⟩) n c) ∧ w'.ownsRow w.heap.size 5 1 (.slice (some ⟨g, 0, none⟩) n c) n (bs.map (Value.int .u8)) ∧ Below w.heap.size w w') := by
  obtain ⟨i0, hi0, hz0, hz1, hz2⟩ := info_parts infoU8
  have hq : ∀ (w : World) (a : Option Addr) (n c n' c' : Nat), (binOp .eql 22 (.slice a n c) (.slice none n' c')).run Tryd.prog w = .ok (.bool a.isNone) w := fun w a n c n' c' => Lib.run_eql_slice_nil w _ _ a n c n' c' Tryd.underlying22
  have HIN := Lib.hid hin
  clear hin
  have e : (some ad : Option Addr).isNone = false := rfl
  go_enter Tryd.func38, Tryd.ntmps38
  go_wp2_with (first
    | (at_builtin
       refine wpList_append_bytes' _ rfl (.tmp 5) (.tmp 6) 22 rfl w.heap.size 5 i0 _ 1 Tryd.underlying22 hi0 hz0 hz1 hz2 rfl w.heap.size 0 0 [] rfl (own_new w 5 .u8 [] w.heap.size (Nat.le_refl _) (by simp [maxLen])) (some ad) n cap bs rfl (HIN.out.below ((Below.refl _ _).alloc (Nat.le_refl _) _)) (by simp only [maxLen]; omega) (by omega) (by simp) ?_
       intro g1 c1 w1 hown1 hg1
       have HO1 := Lib.hid hown1
       have HB1 : Hid (Below w.heap.size w w1) := Lib.hid (below_only ((Below.refl _ _).alloc (Nat.le_refl _) _) hg1 (by simp) (Nat.le_refl _))
       clear hown1 hg1))
  go_ret
  have ho := HO1.out
  rw [List.nil_append, Nat.zero_add] at ho
  exact ⟨g1, c1, rfl, ho, HB1.out⟩

theorem cloneP_any (a : Option Addr) (n cap : Nat) (bs : List Int) (w : World) (hin : InBytes w a n cap bs) (hn : n ≤ 140737488355328) (h0 : 0 < n) :
    Calls Tryd.prog 38 #[.slice a n cap] w (fun e w' => ∃ g c, e = .returned (.slice (some ⟨g, 0, none⟩) n c) ∧ w'.ownsRow w.heap.size 5 1 (.slice (some ⟨g, 0, none⟩) n c) n (bs.map (Value.int .u8)) ∧ Below w.heap.size w w') := by
  obtain ⟨g, off, rfl, _, _⟩ := hin.place h0
  exact cloneN_any _ n cap bs w hin hn

theorem part_lens {t : Tr} (hp : partB t = true) : t.key.length ≤ 80 ∧ t.val.length ≤ 1024 := by
  unfold partB at hp
  split at hp
  · simp only [Bool.and_eq_true, decide_eq_true_eq] at hp; omega
  · split at hp
    · simp only [Bool.and_eq_true, decide_eq_true_eq] at hp; omega
    · split at hp
      · simp only [Bool.and_eq_true, decide_eq_true_eq] at hp; omega
      · split at hp
        · simp only [Bool.and_eq_true, decide_eq_true_eq] at hp; omega
        · cases hp

set_option maxRecDepth 100000 in
set_option maxHeartbeats 4000000 in
theorem pairDigest_any (k : Nat) (hk1 : 1 ≤ k) (hk2 : k ≤ 32) (t : Tr) (h : TH) (w : World) (ht : InTree w h t) (hT : TabLies w) (hpb : partB t = true) (hv : (valT k t).length = k) :
    Calls Tryd.prog 39 #[.int .i64 k, h.v] w (OfPost2 w k (pairL t.key (valT k t))) := by
  unfold TH.v
  obtain ⟨hl1, hl2⟩ := part_lens hpb
  obtain ⟨H, hp⟩ := ht.parts
  have hkl := hp.key.len
  have hvl := hp.val.len
  have hdl := hp.dig.len
  have HK := Lib.hid hp.hk
  have HP := Lib.hid hp
  have HT := Lib.hid hT
  have hbox := Box.new w 25 h
  have HX := Lib.hid hbox
  obtain ⟨x0, x1, x2, x3, x4⟩ := hbox.cells
  have hw1 : Below w.heap.size w (w.alloc (.cells #[.int .i64 h.k, .slice h.ka h.kn h.kc, .slice h.va h.vn h.vc, .slice h.da h.dn h.dc, .slice h.ta h.tn h.tc] 25)) := (Below.refl _ _).alloc (Nat.le_refl _) _
  have HB := Lib.hid hw1
  clear hp ht hT hbox hw1
  go_enter Tryd.func39, Tryd.ntmps39
  cases f1 : (h.k == 1)
  · have hne : ¬ t.k = 1 := by rw [← HK.out]; simpa using f1
    have hval : valT k t = t.dig := by unfold valT; rw [if_neg hne]
    rw [hval] at hv ⊢
    have hdn : (h.dn : Int) = k := by omega
    have HDB := Lib.hid HP.out.dig.bytes
    clear hval hne
    go_wp2_with (first
      | (go_at_call 65
         (with_reducible refine (pair_ok (k : Int) h.ka h.kn h.kc t.key h.da h.dn h.dc t.dig _ (HP.out.key.below HB.out) (by omega) (HP.out.dig.below HB.out) (by omega) (by omega) (by omega)).mono ?_)
         rintro _ w5 ⟨g5, c5, rfl, ho5, hb5⟩
         have HB5 : Hid (Below w.heap.size w w5) := Lib.hid (HB.out.trans (hb5.mono HB.out.size))
         have HI5 := Lib.hid (InBytes.of_own ho5 (pairL_bytes HP.out.key.bytes (by omega) HDB.out))
         clear ho5 hb5)
      | (go_at_call 36
         (with_reducible refine (of_ok k _ _ _ _ _ HI5.out ?_ (HT.out.below HB5.out (Nat.le_refl _)) hk1 hk2).mono ?_)
         · have hq := pairL_len (a := t.key) (b := t.dig) (by omega)
           omega
         rintro _ w6 hof
         obtain ⟨g6, hg6, rfl, hr6, hb6⟩ := hof
         have HB6 : Hid (Below w.heap.size w w6) := Lib.hid (HB5.out.trans (hb6.mono HB5.out.size))
         have HR6 := Lib.hid (And.intro (Nat.le_trans HB5.out.size hg6) hr6)
         clear hg6 hr6 hb6))
    go_ret2
    exact ⟨g6, HR6.out.1, rfl, HR6.out.2, HB6.out⟩
  · have he : t.k = 1 := by rw [← HK.out]; simpa using f1
    have hval : valT k t = (sumL (valL t.val)).take k := by unfold valT; rw [if_pos he]
    rw [hval] at hv ⊢
    have HDB : Hid (Bytes8 ((sumL (valL t.val)).take k)) := Lib.hid (fun z hz => sumL_bytes _ z (List.mem_of_mem_take hz))
    clear hval he
    go_wp2_with (first
      | (go_at_call 64
         (with_reducible refine (value_any h.va h.vn h.vc t.val _ (HP.out.val.below HB.out) (by omega)).mono ?_)
         rintro _ w2 ⟨g2, c2, rfl, ho2, hb2⟩
         have HB2 : Hid (Below w.heap.size w w2) := Lib.hid (HB.out.trans (hb2.mono HB.out.size))
         have HI2 := Lib.hid (InBytes.of_own ho2 (valL_bytes HP.out.val.bytes))
         have HX2 := Lib.hid (HX.out.below hb2 HX.out.lt)
         clear ho2 hb2)
      | (go_at_call 36
         (with_reducible refine (of_ok k (some ⟨g2, 0, none⟩) (valL t.val).length c2 (valL t.val) w2 HI2.out ?_ (HT.out.below HB2.out (Nat.le_refl _)) hk1 hk2).mono ?_)
         · rw [valL_len]; omega
         rintro _ w3 ⟨g3, hg3, rfl, hr3, hb3⟩
         have HB3 : Hid (Below w.heap.size w w3) := Lib.hid (HB2.out.trans (hb3.mono HB2.out.size))
         have HI3 := Lib.hid (of_in hr3 hk2)
         have hx3 := HX2.out.below hb3 HX2.out.lt
         clear x0 x1 x2 x3 x4
         obtain ⟨x0, x1, x2, x3, x4⟩ := hx3.cells
         clear hg3 hr3 hb3 hx3)
      | (go_at_call 65
         (with_reducible refine (pair_ok (k : Int) h.ka h.kn h.kc t.key (some ⟨g3, 0, none⟩) k k ((sumL (valL t.val)).take k) _ (HP.out.key.below HB3.out) (by omega) HI3.out (by omega) (by omega) (by omega)).mono ?_)
         rintro _ w5 ⟨g5, c5, rfl, ho5, hb5⟩
         have HB5 : Hid (Below w.heap.size w w5) := Lib.hid (HB3.out.trans (hb5.mono HB3.out.size))
         have HI5 := Lib.hid (InBytes.of_own ho5 (pairL_bytes HP.out.key.bytes (by omega) HDB.out))
         clear ho5 hb5)
      | (go_at_call 36
         (with_reducible refine (of_ok k _ _ _ _ _ HI5.out ?_ (HT.out.below HB5.out (Nat.le_refl _)) hk1 hk2).mono ?_)
         · have hq := pairL_len (a := t.key) (b := ((sumL (valL t.val)).take k)) (by omega)
           omega
         rintro _ w6 hof
         obtain ⟨g6, hg6, rfl, hr6, hb6⟩ := hof
         have HB6 : Hid (Below w.heap.size w w6) := Lib.hid (HB5.out.trans (hb6.mono HB5.out.size))
         have HR6 := Lib.hid (And.intro (Nat.le_trans HB5.out.size hg6) hr6)
         clear hg6 hr6 hb6))
    go_ret2
    exact ⟨g6, HR6.out.1, rfl, HR6.out.2, HB6.out⟩

/-- What the world is like inside the closure of Digest. -/
structure QW (k gw gc : Nat) (w W : World) (h : TH) (t : Tr) : Prop where
  box : Box W 25 w.heap.size h
  clo : Var1 W 71 gc (.func (.func 35) #[] #[.pointer (some ⟨gw, 0, none⟩), .pointer (some ⟨gc, 0, none⟩)])
  wid : Var1 W 3 gw (.int .i64 k)
  tab : TabLies W
  t : InTree W h t
  b : Below w.heap.size w W
theorem QW.below {k gw gc : Nat} {w W W' : World} {h : TH} {t : Tr} (d : QW k gw gc w W h t) (hb : Below W.heap.size W W') : QW k gw gc w W' h t :=
  ⟨d.box.below hb d.box.lt, d.clo.below hb d.clo.lt, d.wid.below hb d.wid.lt, d.tab.below hb (Nat.le_refl _), d.t.lower hb, d.b.trans (hb.mono d.b.size)⟩
theorem QW.drew {k gw gc : Nat} {w W : World} {h : TH} {t : Tr} (d : QW k gw gc w W h t) : QW k gw gc w W.drew h t := d.below (Below.refl _ _).drew
theorem QW.new {k gw gc : Nat} (w : World) {h : TH} {t : Tr} (hc : Var1 w 71 gc (.func (.func 35) #[] #[.pointer (some ⟨gw, 0, none⟩), .pointer (some ⟨gc, 0, none⟩)])) (hw : Var1 w 3 gw (.int .i64 k)) (hT : TabLies w) (ht : InTree w h t) : QW k gw gc w (w.alloc (.cells #[.int .i64 h.k, .slice h.ka h.kn h.kc, .slice h.va h.vn h.vc, .slice h.da h.dn h.dc, .slice h.ta h.tn h.tc] 25)) h t :=
  ⟨Box.new w _ h, hc.below ((Below.refl _ _).alloc (Nat.le_refl _) _) hc.lt, hw.below ((Below.refl _ _).alloc (Nat.le_refl _) _) hw.lt, hT.below ((Below.refl w.heap.size w).alloc (Nat.le_refl _) _) (Nat.le_refl _), ht.lower ((Below.refl _ _).alloc (Nat.le_refl _) _), (Below.refl _ _).alloc (Nat.le_refl _) _⟩
theorem digT_split {k : Nat} {t : Tr} {zs : List Int} (h0 : t.k ≠ 0) (h3 : t.k ≠ 3) (h2 : t.kids.length = 2) (hd : digT k t = some zs) :
    (valT k t).length = k ∧ ∃ l r, digT k (t.kids[0]'(by omega)) = some l ∧ digT k (t.kids[1]'(by omega)) = some r ∧ zs = (sumL (nodeL l ((sumL (pairL t.key (valT k t))).take k) r)).take k := by
  by_cases hv : (valT k t).length = k
  · refine ⟨hv, ?_⟩
    rw [digT_node h0 h3 hv h2] at hd
    split at hd
    · rename_i l r e1 e2
      injection hd with hd
      exact ⟨l, r, e1, e2, hd.symm⟩
    · cases hd
  · rw [digT_bad h0 h3 hv] at hd
    cases hd

set_option maxRecDepth 100000 in
set_option maxHeartbeats 4000000 in
theorem digC_any (k : Nat) (hk1 : 1 ≤ k) (hk2 : k ≤ 32) : ∀ (t : Tr) (h : TH) (w : World) (gw gc : Nat), InTree w h t → TabLies w → formedT t = true → Var1 w 3 gw (.int .i64 k) → Var1 w 71 gc (.func (.func 35) #[] #[.pointer (some ⟨gw, 0, none⟩), .pointer (some ⟨gc, 0, none⟩)]) → ∀ zs, digT k t = some zs →
    Calls Tryd.prog 35 #[h.v, .pointer (some ⟨gw, 0, none⟩), .pointer (some ⟨gc, 0, none⟩)] w (BytesPost w zs) := by
  intro t
  induction t using Tr.ind with
  | h t ih =>
  intro h w gw gc ht hT hf hw hc zs hdg
  obtain ⟨hpb, hfk⟩ := formed_kids hf
  obtain ⟨hlk, hlv⟩ := part_lens hpb
  unfold TH.v
  obtain ⟨H, hp⟩ := ht.parts
  have htl := hp.len
  have htc := hp.sl.le
  have htm := Nat.le_trans hp.sl.le hp.sl.max
  have hdl := hp.dig.len
  simp only [maxLen] at htm
  have HK := Lib.hid hp.hk
  have HP := Lib.hid hp
  have IH := Lib.hid ih
  have hd0 := QW.new w hc hw hT ht
  have HD0 := Lib.hid hd0
  obtain ⟨x0, x1, x2, x3, x4⟩ := hd0.box.cells
  have HF := Lib.hid hfk
  clear hp ht ih hT hc hw hd0 hf hfk
  go_enter Tryd.func35, Tryd.ntmps35
  by_cases k0 : t.k = 0
  · have e1 : zs = (sumL [3]).take k := by rw [digT_0 k0] at hdg; injection hdg with hdg; exact hdg.symm
    have hk0 : h.k = 0 := by rw [HK.out, k0]
    have hkb : (h.k == 0) = true := by rw [hk0]; rfl
    have b3 : Bytes8 [3] := fun z hz => by simp at hz; omega
    clear hdg k0 hk0
    go_upto_region 3 with fail
    generalize (w.alloc (.cells #[.int .i64 h.k, .slice h.ka h.kn h.kc, .slice h.va h.vn h.vc, .slice h.da h.dn h.dc, .slice h.ta h.tn h.tc] 25)) = w0 at *
    refine wp_region_held_drew (S := (fun W => W.cell? ⟨gw, 0, none⟩ = some (.int .i64 k))) (by kernel_rfl) HD0.out.drew.wid.cell (fun hHeld => ?_)
    refine take_w (i := 0) (oi := ?oZ1) (v := ?vZ1) ?hiZ1 (by kernel_rfl) (by kernel_rfl) (by kernel_rfl) ?hQZ1 ?hwZ1 ?hyZ1 (by assumption) ?restZ1
    case hiZ1 => (simp only [List.getElem?_toArray, List.getElem?_cons_zero] <;> rfl)
    case hQZ1 => exact (fun _ _ _ h => h)
    case hwZ1 => rfl
    case hyZ1 => (intro w hSw; (try dsimp only at hSw); go_simp; try with_reducible rfl)
    (try simp only [Act.put, List.setIfInBounds_toArray, List.set_cons_zero, List.set_cons_succ])
    refine wpAnyH_ready (rs := [1]) (by kernel_rfl) (by simp) ?_
    refine AllReadyH.cons (o := ?oZ2) ?hiZ2 (fun K hK => ?stZ2) AllReadyH.nil
    case hiZ2 => (simp only [List.getElem?_toArray, List.getElem?_cons_succ, List.getElem?_cons_zero] <;> rfl)
    go_simp
    go_at_call 37
    (with_reducible refine (none_any _).mono ?_)
    rintro _ w1 ⟨g1, c1, rfl, ho1, hb1⟩
    have HD1 := Lib.hid (HD0.out.drew.below hb1)
    have HI1 : Hid (InBytes w1 (some ⟨g1, 0, none⟩) 1 c1 [3]) := Lib.hid (InBytes.of_own ho1 b3)
    clear ho1 hb1
    go_simp
    refine hK.out _ _ ?_ (fun hHeld => ?_)
    · (first | exact HD2.out.wid.cell | exact HD1.out.wid.cell | exact HD0.out.drew.wid.cell)
    clear hK K
    (try simp only [Act.put, List.setIfInBounds_toArray, List.set_cons_zero, List.set_cons_succ])
    refine wpAnyH_ready (rs := [2]) (by kernel_rfl) (by simp) ?_
    refine AllReadyH.cons (o := ?oZ3) ?hiZ3 (fun K hK => ?stZ3) AllReadyH.nil
    case hiZ3 => (simp only [List.getElem?_toArray, List.getElem?_cons_succ, List.getElem?_cons_zero] <;> rfl)
    go_simp
    go_at_call 36
    (with_reducible refine (of_ok k (some ⟨g1, 0, none⟩) 1 c1 [3] _ HI1.out (by omega) HD1.out.tab hk1 hk2).mono ?_)
    rintro _ w2 ⟨g2, hg2, rfl, hr2, hb2⟩
    have HD2 := Lib.hid (HD1.out.below hb2)
    have HR2 := Lib.hid (And.intro (Nat.le_trans HD1.out.b.size hg2) hr2)
    clear hg2 hr2 hb2
    go_simp
    refine hK.out _ _ ?_ (fun hHeld => ?_)
    · (first | exact HD2.out.wid.cell | exact HD1.out.wid.cell | exact HD0.out.drew.wid.cell)
    clear hK K
    (try simp only [Act.put, List.setIfInBounds_toArray, List.set_cons_zero, List.set_cons_succ])
    refine take_w (i := 3) (oi := ?oZ4) (v := ?vZ4) ?hiZ4 (by kernel_rfl) (by kernel_rfl) (by kernel_rfl) ?hQZ4 ?hwZ4 ?hyZ4 (by assumption) ?restZ4
    case hiZ4 => (simp only [List.getElem?_toArray, List.getElem?_cons_succ, List.getElem?_cons_zero] <;> rfl)
    case hQZ4 => exact (fun _ _ _ h => h)
    case hwZ4 => rfl
    case hyZ4 => (intro w hSw; (try dsimp only at hSw); go_simp; try with_reducible rfl)
    (try simp only [Act.put, List.setIfInBounds_toArray, List.set_cons_zero, List.set_cons_succ])
    refine take_w (i := 4) (oi := ?oZ5) (v := ?vZ5) ?hiZ5 (by kernel_rfl) (by kernel_rfl) (by kernel_rfl) ?hQZ5 ?hwZ5 ?hyZ5 (by assumption) ?restZ5
    case hiZ5 => (simp only [List.getElem?_toArray, List.getElem?_cons_succ, List.getElem?_cons_zero] <;> rfl)
    case hQZ5 => exact (fun _ _ _ h => h)
    case hwZ5 => rfl
    case hyZ5 => (intro w hSw; (try dsimp only at hSw); go_simp; try with_reducible rfl)
    (try simp only [Act.put, List.setIfInBounds_toArray, List.set_cons_zero, List.set_cons_succ])
    refine take_w (i := 5) (oi := ?oZ6) (v := ?vZ6) ?hiZ6 (by kernel_rfl) (by kernel_rfl) (by kernel_rfl) ?hQZ6 ?hwZ6 ?hyZ6 (by assumption) ?restZ6
    case hiZ6 => (simp only [List.getElem?_toArray, List.getElem?_cons_succ, List.getElem?_cons_zero] <;> rfl)
    case hQZ6 => exact (fun _ _ _ h => h)
    case hwZ6 => rfl
    case hyZ6 => (intro w hSw; (try dsimp only at hSw); go_simp; try with_reducible rfl)
    (try simp only [Act.put, List.setIfInBounds_toArray, List.set_cons_zero, List.set_cons_succ])
    refine take_w (i := 6) (oi := ?oZ7) (v := ?vZ7) ?hiZ7 (by kernel_rfl) (by kernel_rfl) (by kernel_rfl) ?hQZ7 ?hwZ7 ?hyZ7 (by assumption) ?restZ7
    case hiZ7 => (simp only [List.getElem?_toArray, List.getElem?_cons_succ, List.getElem?_cons_zero] <;> rfl)
    case hQZ7 => exact (fun _ _ _ h => h)
    case hwZ7 => rfl
    case hyZ7 => (intro w hSw; (try dsimp only at hSw); go_simp; try with_reducible rfl)
    (try simp only [Act.put, List.setIfInBounds_toArray, List.set_cons_zero, List.set_cons_succ])
    refine wpAnyH_done (by kernel_rfl) ?_ _
    
    go_wp2_with fail
    go_ret2
    subst e1
    exact OfPost2.bytes hk2 ⟨g2, HR2.out.1, rfl, HR2.out.2, HD2.out.b⟩
  have hkb0 : (h.k == 0) = false := by rw [HK.out]; simpa using k0
  by_cases k3 : t.k = 3
  · have hkb3 : (h.k == 3) = true := by rw [HK.out]; simpa using k3
    rw [digT_3 k3] at hdg
    split at hdg
    · rename_i hdw
      injection hdg with hdg
      subst hdg
      have hd0 : 0 < h.dn := by omega
      have hd1 : h.dn ≤ 32 := by omega
      have HDW := Lib.hid (And.intro hdl hdw)
      clear k3 k0 hdl hdw
      go_upto_region 5 with fail
      generalize (w.alloc (.cells #[.int .i64 h.k, .slice h.ka h.kn h.kc, .slice h.va h.vn h.vc, .slice h.da h.dn h.dc, .slice h.ta h.tn h.tc] 25)) = w0 at *
      go_wp2_with (first
        | (go_at_call 38
           (with_reducible refine (cloneP_any h.da h.dn h.dc t.dig _ (HP.out.dig.below HD0.out.b) (by omega) hd0).mono ?_)
           rintro _ w1 ⟨g1, c1, rfl, ho1, hb1⟩
           have HD1 := Lib.hid (HD0.out.below hb1)
           have HO1 := Lib.hid ho1
           clear ho1 hb1))
      go_ret2
      refine ⟨some ⟨g1, 0, none⟩, c1, by rw [HDW.out.1]; rfl, ⟨by rw [HDW.out.1]; exact InBytes.of_own HO1.out HP.out.dig.bytes, fun ad hh => ?_, fun ad o hh => ?_⟩, HD1.out.b⟩
      · injection hh with hh
        rw [← hh]
        exact Nat.le_trans HD0.out.b.size (own_free HO1.out 0).1
      · injection hh with hh
        rw [← hh]
        exact (own_free HO1.out o).2
    · cases hdg
  have hkb3 : (h.k == 3) = false := by rw [HK.out]; simpa using k3
  rcases part_kids hpb with ⟨_, hk | hk⟩ | ⟨h2, hk⟩
  · exact absurd hk k0
  · exact absurd hk k3
  obtain ⟨hvl, ls, rs, hdL, hdR, hzs⟩ := digT_split k0 k3 h2 hdg
  have l0 : 0 < t.kids.length := by omega
  have l1 : 1 < t.kids.length := by omega
  have hll := digT_len hk2 hdL
  have hlr := digT_len hk2 hdR
  have HDL := Lib.hid hdL
  have HDR := Lib.hid hdR
  clear hdL hdR hdg hk k0 k3
  go_upto_region 6 with fail
  obtain ⟨g, off, hta, hg, -⟩ := (HP.out.below HD0.out.b).place (by omega)
  have HTA := Lib.hid hta
  rw [hta]
  generalize hW0 : (w.alloc (.cells #[.int .i64 h.k, .slice h.ka h.kn h.kc, .slice h.va h.vn h.vc, .slice h.da h.dn h.dc, .slice (some ⟨g, off, none⟩) h.tn h.tc] 25)) = w0
  have hW1 : (w.alloc (.cells #[.int .i64 h.k, .slice h.ka h.kn h.kc, .slice h.va h.vn h.vc, .slice h.da h.dn h.dc, .slice h.ta h.tn h.tc] 25)) = w0 := by rw [hta]; exact hW0
  rw [hW1] at HD0
  clear hta hW0 hW1 hg x0 x1 x2 x3 x4
  have ht1 : (1 : Int) < (h.tn : Int) := by omega
  have ht0 : 0 < h.tn := by omega
  refine wp_region_held_drew (S := (fun W => W.cell? ⟨gc, 0, none⟩ = some (.func (.func 35) #[] #[.pointer (some ⟨gw, 0, none⟩), .pointer (some ⟨gc, 0, none⟩)]) ∧ W.cell? ⟨w.heap.size, 4, none⟩ = some (.slice (some ⟨g, off, none⟩) h.tn h.tc) ∧ W.cell? ⟨g, off, none⟩ = some (.int .i64 (H 0).k) ∧ W.cell? ⟨g, off + 1, none⟩ = some (.slice (H 0).ka (H 0).kn (H 0).kc) ∧ W.cell? ⟨g, off + 2, none⟩ = some (.slice (H 0).va (H 0).vn (H 0).vc) ∧ W.cell? ⟨g, off + 3, none⟩ = some (.slice (H 0).da (H 0).dn (H 0).dc) ∧ W.cell? ⟨g, off + 4, none⟩ = some (.slice (H 0).ta (H 0).tn (H 0).tc))) (by kernel_rfl) ⟨HD0.out.drew.clo.cell, (HD0.out.drew.box.cells.2.2.2.2).trans (by rw [HTA.out]), (HP.out.below HD0.out.drew.b).kid0 HTA.out (by omega)⟩ (fun hHeld => ?_)
  refine take_w (i := 0) (oi := ?oZ8) (v := ?vZ8) ?hiZ8 (by kernel_rfl) (by kernel_rfl) (by kernel_rfl) ?hQZ8 ?hwZ8 ?hyZ8 (by assumption) ?restZ8
  case hiZ8 => (simp only [List.getElem?_toArray, List.getElem?_cons_zero] <;> rfl)
  case hQZ8 => exact (fun _ _ _ h => h)
  case hwZ8 => rfl
  case hyZ8 => (intro w hSw; (try dsimp only at hSw); go_simp; try with_reducible rfl)
  (try simp only [Act.put, List.setIfInBounds_toArray, List.set_cons_zero, List.set_cons_succ])
  refine take_w (i := 1) (oi := ?oZ9) (v := ?vZ9) ?hiZ9 (by kernel_rfl) (by kernel_rfl) (by kernel_rfl) ?hQZ9 ?hwZ9 ?hyZ9 (by assumption) ?restZ9
  case hiZ9 => (simp only [List.getElem?_toArray, List.getElem?_cons_succ, List.getElem?_cons_zero] <;> rfl)
  case hQZ9 => exact (fun _ _ _ h => h)
  case hwZ9 => rfl
  case hyZ9 => (intro w hSw; (try dsimp only at hSw); go_simp; try with_reducible rfl)
  (try simp only [Act.put, List.setIfInBounds_toArray, List.set_cons_zero, List.set_cons_succ])
  refine take_w (i := 2) (oi := ?oZ10) (v := ?vZ10) ?hiZ10 (by kernel_rfl) (by kernel_rfl) (by kernel_rfl) ?hQZ10 ?hwZ10 ?hyZ10 (by assumption) ?restZ10
  case hiZ10 => (simp only [List.getElem?_toArray, List.getElem?_cons_succ, List.getElem?_cons_zero] <;> rfl)
  case hQZ10 => exact (fun _ _ _ h => h)
  case hwZ10 => rfl
  case hyZ10 => (intro w hSw; (try dsimp only at hSw); go_simp; try with_reducible rfl)
  (try simp only [Act.put, List.setIfInBounds_toArray, List.set_cons_zero, List.set_cons_succ])
  refine take_w (i := 3) (oi := ?oZ11) (v := ?vZ11) ?hiZ11 (by kernel_rfl) (by kernel_rfl) (by kernel_rfl) ?hQZ11 ?hwZ11 ?hyZ11 (by assumption) ?restZ11
  case hiZ11 => (simp only [List.getElem?_toArray, List.getElem?_cons_succ, List.getElem?_cons_zero] <;> rfl)
  case hQZ11 => exact (fun _ _ _ h => h)
  case hwZ11 => rfl
  case hyZ11 => (intro w hSw; (try dsimp only at hSw); go_simp; try with_reducible rfl)
  (try simp only [Act.put, List.setIfInBounds_toArray, List.set_cons_zero, List.set_cons_succ])
  refine take_w (i := 4) (oi := ?oZ12) (v := ?vZ12) ?hiZ12 (by kernel_rfl) (by kernel_rfl) (by kernel_rfl) ?hQZ12 ?hwZ12 ?hyZ12 (by assumption) ?restZ12
  case hiZ12 => (simp only [List.getElem?_toArray, List.getElem?_cons_succ, List.getElem?_cons_zero] <;> rfl)
  case hQZ12 => exact (fun _ _ _ h => h)
  case hwZ12 => rfl
  case hyZ12 => (intro w hSw; (try dsimp only at hSw); go_simp; try with_reducible rfl)
  (try simp only [Act.put, List.setIfInBounds_toArray, List.set_cons_zero, List.set_cons_succ])
  refine wpAnyH_ready (rs := [5]) (by kernel_rfl) (by simp) ?_
  refine AllReadyH.cons (o := ?oZ13) ?hiZ13 (fun K hK => ?stZ13) AllReadyH.nil
  case hiZ13 => (simp only [List.getElem?_toArray, List.getElem?_cons_succ, List.getElem?_cons_zero] <;> rfl)
  go_simp
  go_at_call 35
  refine (IH.out _ (List.getElem_mem l0) (H 0) _ gw gc ((HP.out.below HD0.out.drew.b).kids 0 l0) HD0.out.drew.tab (HF.out 0 l0) HD0.out.drew.wid HD0.out.drew.clo ls HDL.out).mono ?_
  rintro _ w1 ⟨a1, c1, rfl, hn1, hb1⟩
  have HD1 := Lib.hid (HD0.out.drew.below hb1)
  have HI1 := Lib.hid hn1.inb
  skip
  clear hn1 hb1
  go_simp
  refine hK.out _ _ ?_ (fun hHeld => ?_)
  · (first | exact ⟨HD1.out.clo.cell, (HD1.out.box.cells.2.2.2.2).trans (by rw [HTA.out]), (HP.out.below HD1.out.b).kid0 HTA.out (by omega)⟩ | exact ⟨HD0.out.drew.clo.cell, (HD0.out.drew.box.cells.2.2.2.2).trans (by rw [HTA.out]), (HP.out.below HD0.out.drew.b).kid0 HTA.out (by omega)⟩)
  clear hK K
  (try simp only [Act.put, List.setIfInBounds_toArray, List.set_cons_zero, List.set_cons_succ])
  refine take_w (i := 6) (oi := ?oZ14) (v := ?vZ14) ?hiZ14 (by kernel_rfl) (by kernel_rfl) (by kernel_rfl) ?hQZ14 ?hwZ14 ?hyZ14 (by assumption) ?restZ14
  case hiZ14 => (simp only [List.getElem?_toArray, List.getElem?_cons_succ, List.getElem?_cons_zero] <;> rfl)
  case hQZ14 => exact (fun _ _ _ h => h)
  case hwZ14 => rfl
  case hyZ14 => (intro w hSw; (try dsimp only at hSw); go_simp; try with_reducible rfl)
  (try simp only [Act.put, List.setIfInBounds_toArray, List.set_cons_zero, List.set_cons_succ])
  refine take_w (i := 7) (oi := ?oZ15) (v := ?vZ15) ?hiZ15 (by kernel_rfl) (by kernel_rfl) (by kernel_rfl) ?hQZ15 ?hwZ15 ?hyZ15 (by assumption) ?restZ15
  case hiZ15 => (simp only [List.getElem?_toArray, List.getElem?_cons_succ, List.getElem?_cons_zero] <;> rfl)
  case hQZ15 => exact (fun _ _ _ h => h)
  case hwZ15 => rfl
  case hyZ15 => (intro w hSw; (try dsimp only at hSw); go_simp; try with_reducible rfl)
  (try simp only [Act.put, List.setIfInBounds_toArray, List.set_cons_zero, List.set_cons_succ])
  refine take_w (i := 8) (oi := ?oZ16) (v := ?vZ16) ?hiZ16 (by kernel_rfl) (by kernel_rfl) (by kernel_rfl) ?hQZ16 ?hwZ16 ?hyZ16 (by assumption) ?restZ16
  case hiZ16 => (simp only [List.getElem?_toArray, List.getElem?_cons_succ, List.getElem?_cons_zero] <;> rfl)
  case hQZ16 => exact (fun _ _ _ h => h)
  case hwZ16 => rfl
  case hyZ16 => (intro w hSw; (try dsimp only at hSw); go_simp; try with_reducible rfl)
  (try simp only [Act.put, List.setIfInBounds_toArray, List.set_cons_zero, List.set_cons_succ])
  refine take_w (i := 9) (oi := ?oZ17) (v := ?vZ17) ?hiZ17 (by kernel_rfl) (by kernel_rfl) (by kernel_rfl) ?hQZ17 ?hwZ17 ?hyZ17 (by assumption) ?restZ17
  case hiZ17 => (simp only [List.getElem?_toArray, List.getElem?_cons_succ, List.getElem?_cons_zero] <;> rfl)
  case hQZ17 => exact (fun _ _ _ h => h)
  case hwZ17 => rfl
  case hyZ17 => (intro w hSw; (try dsimp only at hSw); go_simp; try with_reducible rfl)
  (try simp only [Act.put, List.setIfInBounds_toArray, List.set_cons_zero, List.set_cons_succ])
  refine take_w (i := 10) (oi := ?oZ18) (v := ?vZ18) ?hiZ18 (by kernel_rfl) (by kernel_rfl) (by kernel_rfl) ?hQZ18 ?hwZ18 ?hyZ18 (by assumption) ?restZ18
  case hiZ18 => (simp only [List.getElem?_toArray, List.getElem?_cons_succ, List.getElem?_cons_zero] <;> rfl)
  case hQZ18 => exact (fun _ _ _ h => h)
  case hwZ18 => rfl
  case hyZ18 => (intro w hSw; (try dsimp only at hSw); go_simp; try with_reducible rfl)
  (try simp only [Act.put, List.setIfInBounds_toArray, List.set_cons_zero, List.set_cons_succ])
  refine wpAnyH_done (by kernel_rfl) ?_ _
  
  clear hHeld
  obtain ⟨x0, x1, x2, x3, x4⟩ := HD1.out.box.cells
  have xw := HD1.out.wid.cell
  go_upto_region 12 with (first
    | (go_at_call 39
       refine (pairDigest_any k hk1 hk2 t h _ HD1.out.t HD1.out.tab hpb hvl).mono ?_
       rintro _ w2 ⟨g2, hg2, rfl, hr2, hb2⟩
       have HD2 := Lib.hid (HD1.out.below hb2)
       have HI2 := Lib.hid (of_in hr2 hk2)
       have HI12 := Lib.hid (HI1.out.below hb2)
       clear hg2 hr2 hb2))
  clear x0 x1 x2 x3 x4 xw
  refine wp_region_held_drew (S := (fun W => W.cell? ⟨gc, 0, none⟩ = some (.func (.func 35) #[] #[.pointer (some ⟨gw, 0, none⟩), .pointer (some ⟨gc, 0, none⟩)]) ∧ W.cell? ⟨w.heap.size, 4, none⟩ = some (.slice (some ⟨g, off, none⟩) h.tn h.tc) ∧ W.cell? ⟨g, off + 5, none⟩ = some (.int .i64 (H 1).k) ∧ W.cell? ⟨g, off + 5 + 1, none⟩ = some (.slice (H 1).ka (H 1).kn (H 1).kc) ∧ W.cell? ⟨g, off + 5 + 2, none⟩ = some (.slice (H 1).va (H 1).vn (H 1).vc) ∧ W.cell? ⟨g, off + 5 + 3, none⟩ = some (.slice (H 1).da (H 1).dn (H 1).dc) ∧ W.cell? ⟨g, off + 5 + 4, none⟩ = some (.slice (H 1).ta (H 1).tn (H 1).tc))) (by kernel_rfl) ⟨HD2.out.drew.clo.cell, (HD2.out.drew.box.cells.2.2.2.2).trans (by rw [HTA.out]), (HP.out.below HD2.out.drew.b).kid1 HTA.out (by omega)⟩ (fun hHeld => ?_)
  refine take_w (i := 0) (oi := ?oZ19) (v := ?vZ19) ?hiZ19 (by kernel_rfl) (by kernel_rfl) (by kernel_rfl) ?hQZ19 ?hwZ19 ?hyZ19 (by assumption) ?restZ19
  case hiZ19 => (simp only [List.getElem?_toArray, List.getElem?_cons_zero] <;> rfl)
  case hQZ19 => exact (fun _ _ _ h => h)
  case hwZ19 => rfl
  case hyZ19 => (intro w hSw; (try dsimp only at hSw); go_simp; try with_reducible rfl)
  (try simp only [Act.put, List.setIfInBounds_toArray, List.set_cons_zero, List.set_cons_succ])
  refine take_w (i := 1) (oi := ?oZ20) (v := ?vZ20) ?hiZ20 (by kernel_rfl) (by kernel_rfl) (by kernel_rfl) ?hQZ20 ?hwZ20 ?hyZ20 (by assumption) ?restZ20
  case hiZ20 => (simp only [List.getElem?_toArray, List.getElem?_cons_succ, List.getElem?_cons_zero] <;> rfl)
  case hQZ20 => exact (fun _ _ _ h => h)
  case hwZ20 => rfl
  case hyZ20 => (intro w hSw; (try dsimp only at hSw); go_simp; try with_reducible rfl)
  (try simp only [Act.put, List.setIfInBounds_toArray, List.set_cons_zero, List.set_cons_succ])
  refine take_w (i := 2) (oi := ?oZ21) (v := ?vZ21) ?hiZ21 (by kernel_rfl) (by kernel_rfl) (by kernel_rfl) ?hQZ21 ?hwZ21 ?hyZ21 (by assumption) ?restZ21
  case hiZ21 => (simp only [List.getElem?_toArray, List.getElem?_cons_succ, List.getElem?_cons_zero] <;> rfl)
  case hQZ21 => exact (fun _ _ _ h => h)
  case hwZ21 => rfl
  case hyZ21 => (intro w hSw; (try dsimp only at hSw); go_simp; try with_reducible rfl)
  (try simp only [Act.put, List.setIfInBounds_toArray, List.set_cons_zero, List.set_cons_succ])
  refine take_w (i := 3) (oi := ?oZ22) (v := ?vZ22) ?hiZ22 (by kernel_rfl) (by kernel_rfl) (by kernel_rfl) ?hQZ22 ?hwZ22 ?hyZ22 (by assumption) ?restZ22
  case hiZ22 => (simp only [List.getElem?_toArray, List.getElem?_cons_succ, List.getElem?_cons_zero] <;> rfl)
  case hQZ22 => exact (fun _ _ _ h => h)
  case hwZ22 => rfl
  case hyZ22 => (intro w hSw; (try dsimp only at hSw); go_simp; try with_reducible rfl)
  (try simp only [Act.put, List.setIfInBounds_toArray, List.set_cons_zero, List.set_cons_succ])
  refine take_w (i := 4) (oi := ?oZ23) (v := ?vZ23) ?hiZ23 (by kernel_rfl) (by kernel_rfl) (by kernel_rfl) ?hQZ23 ?hwZ23 ?hyZ23 (by assumption) ?restZ23
  case hiZ23 => (simp only [List.getElem?_toArray, List.getElem?_cons_succ, List.getElem?_cons_zero] <;> rfl)
  case hQZ23 => exact (fun _ _ _ h => h)
  case hwZ23 => rfl
  case hyZ23 => (intro w hSw; (try dsimp only at hSw); go_simp; try with_reducible rfl)
  (try simp only [Act.put, List.setIfInBounds_toArray, List.set_cons_zero, List.set_cons_succ])
  refine wpAnyH_ready (rs := [5]) (by kernel_rfl) (by simp) ?_
  refine AllReadyH.cons (o := ?oZ24) ?hiZ24 (fun K hK => ?stZ24) AllReadyH.nil
  case hiZ24 => (simp only [List.getElem?_toArray, List.getElem?_cons_succ, List.getElem?_cons_zero] <;> rfl)
  go_simp
  go_at_call 35
  refine (IH.out _ (List.getElem_mem l1) (H 1) _ gw gc ((HP.out.below HD2.out.drew.b).kids 1 l1) HD2.out.drew.tab (HF.out 1 l1) HD2.out.drew.wid HD2.out.drew.clo rs HDR.out).mono ?_
  rintro _ w3 ⟨a3, c3, rfl, hn3, hb3⟩
  have HD3 := Lib.hid (HD2.out.drew.below hb3)
  have HI3 := Lib.hid hn3.inb
  have HI13 := Lib.hid ((HI12.out.below (Below.refl _ _).drew).below hb3)
  have HI23 := Lib.hid ((HI2.out.below (Below.refl _ _).drew).below hb3)
  clear hn3 hb3
  go_simp
  refine hK.out _ _ ?_ (fun hHeld => ?_)
  · (first | exact ⟨HD3.out.clo.cell, (HD3.out.box.cells.2.2.2.2).trans (by rw [HTA.out]), (HP.out.below HD3.out.b).kid1 HTA.out (by omega)⟩ | exact ⟨HD2.out.drew.clo.cell, (HD2.out.drew.box.cells.2.2.2.2).trans (by rw [HTA.out]), (HP.out.below HD2.out.drew.b).kid1 HTA.out (by omega)⟩)
  clear hK K
  (try simp only [Act.put, List.setIfInBounds_toArray, List.set_cons_zero, List.set_cons_succ])
  refine take_w (i := 6) (oi := ?oZ25) (v := ?vZ25) ?hiZ25 (by kernel_rfl) (by kernel_rfl) (by kernel_rfl) ?hQZ25 ?hwZ25 ?hyZ25 (by assumption) ?restZ25
  case hiZ25 => (simp only [List.getElem?_toArray, List.getElem?_cons_succ, List.getElem?_cons_zero] <;> rfl)
  case hQZ25 => exact (fun _ _ _ h => h)
  case hwZ25 => rfl
  case hyZ25 => (intro w hSw; (try dsimp only at hSw); go_simp; try with_reducible rfl)
  (try simp only [Act.put, List.setIfInBounds_toArray, List.set_cons_zero, List.set_cons_succ])
  refine take_w (i := 7) (oi := ?oZ26) (v := ?vZ26) ?hiZ26 (by kernel_rfl) (by kernel_rfl) (by kernel_rfl) ?hQZ26 ?hwZ26 ?hyZ26 (by assumption) ?restZ26
  case hiZ26 => (simp only [List.getElem?_toArray, List.getElem?_cons_succ, List.getElem?_cons_zero] <;> rfl)
  case hQZ26 => exact (fun _ _ _ h => h)
  case hwZ26 => rfl
  case hyZ26 => (intro w hSw; (try dsimp only at hSw); go_simp; try with_reducible rfl)
  (try simp only [Act.put, List.setIfInBounds_toArray, List.set_cons_zero, List.set_cons_succ])
  refine take_w (i := 8) (oi := ?oZ27) (v := ?vZ27) ?hiZ27 (by kernel_rfl) (by kernel_rfl) (by kernel_rfl) ?hQZ27 ?hwZ27 ?hyZ27 (by assumption) ?restZ27
  case hiZ27 => (simp only [List.getElem?_toArray, List.getElem?_cons_succ, List.getElem?_cons_zero] <;> rfl)
  case hQZ27 => exact (fun _ _ _ h => h)
  case hwZ27 => rfl
  case hyZ27 => (intro w hSw; (try dsimp only at hSw); go_simp; try with_reducible rfl)
  (try simp only [Act.put, List.setIfInBounds_toArray, List.set_cons_zero, List.set_cons_succ])
  refine take_w (i := 9) (oi := ?oZ28) (v := ?vZ28) ?hiZ28 (by kernel_rfl) (by kernel_rfl) (by kernel_rfl) ?hQZ28 ?hwZ28 ?hyZ28 (by assumption) ?restZ28
  case hiZ28 => (simp only [List.getElem?_toArray, List.getElem?_cons_succ, List.getElem?_cons_zero] <;> rfl)
  case hQZ28 => exact (fun _ _ _ h => h)
  case hwZ28 => rfl
  case hyZ28 => (intro w hSw; (try dsimp only at hSw); go_simp; try with_reducible rfl)
  (try simp only [Act.put, List.setIfInBounds_toArray, List.set_cons_zero, List.set_cons_succ])
  refine take_w (i := 10) (oi := ?oZ29) (v := ?vZ29) ?hiZ29 (by kernel_rfl) (by kernel_rfl) (by kernel_rfl) ?hQZ29 ?hwZ29 ?hyZ29 (by assumption) ?restZ29
  case hiZ29 => (simp only [List.getElem?_toArray, List.getElem?_cons_succ, List.getElem?_cons_zero] <;> rfl)
  case hQZ29 => exact (fun _ _ _ h => h)
  case hwZ29 => rfl
  case hyZ29 => (intro w hSw; (try dsimp only at hSw); go_simp; try with_reducible rfl)
  (try simp only [Act.put, List.setIfInBounds_toArray, List.set_cons_zero, List.set_cons_succ])
  refine wpAnyH_done (by kernel_rfl) ?_ _
  
  clear hHeld
  have hi1 := HI13.out
  have hi3 := HI3.out
  rw [hll] at hi1
  rw [hlr] at hi3
  have HIA := Lib.hid hi1
  have HIB := Lib.hid hi3
  have xw := HD3.out.wid.cell
  have HZS := Lib.hid hzs
  clear hi1 hi3 hzs hvl hll hlr
  go_wp2_with (first
    | (go_at_call 40
       (with_reducible refine (node_ok (k : Int) a1 k c1 ls (some ⟨g2, 0, none⟩) k k ((sumL (pairL t.key (valT k t))).take k) a3 k c3 rs _ HIA.out HI23.out HIB.out (by omega) (by omega) rfl rfl rfl).mono ?_)
       rintro _ w4 ⟨g4, c4, rfl, ho4, hb4⟩
       have HD4 := Lib.hid (HD3.out.below hb4)
       have HI4 := Lib.hid (InBytes.of_own ho4 (nodeL_bytes HIA.out.bytes HI23.out.bytes HIB.out.bytes))
       clear xw
       have xw := HD4.out.wid.cell
       clear ho4 hb4)
    | (go_at_call 36
       (with_reducible refine (of_ok k _ _ _ _ _ HI4.out ?_ HD4.out.tab hk1 hk2).mono ?_)
       · rw [nodeL_len, HIA.out.len, HI23.out.len, HIB.out.len]; omega
       rintro _ w5 ⟨g5, hg5, rfl, hr5, hb5⟩
       have HD5 := Lib.hid (HD4.out.below hb5)
       have HR5 := Lib.hid (And.intro (Nat.le_trans HD4.out.b.size hg5) hr5)
       clear hg5 hr5 hb5))
  go_ret2
  rw [HZS.out]
  exact OfPost2.bytes hk2 ⟨g5, HR5.out.1, rfl, HR5.out.2, HD5.out.b⟩
end Go.Proofs.YtkfjhegehhahcaaDoor

/- The contracts of the program's trees: Digest. -/
namespace Go.Proofs.YtkfjhegehhahcaaDoor
open Go.RowKit
set_option linter.unusedVariables false

theorem fits_dig {k : Nat} (hk : k ≤ 32) : ∀ t : Tr, formedT t = true → (allT (fitsK k) t = true ↔ ∃ zs, digT k t = some zs) := by
  intro t
  induction t using Tr.ind with
  | h t ih =>
  intro hf
  obtain ⟨hp, hkf⟩ := formed_kids hf
  rw [allT_eq, Bool.and_eq_true]
  rcases part_kids hp with ⟨h0, h | h⟩ | ⟨h2, h⟩
  · have e : t.kids = [] := List.length_eq_zero_iff.1 h0
    rw [digT_0 h, e]
    simp [fitsK, toldK, h]
  · have e : t.kids = [] := List.length_eq_zero_iff.1 h0
    rw [digT_3 h, e]
    simp [fitsK, toldK, h]
  · have n0 : t.k ≠ 0 := by omega
    have n3 : t.k ≠ 3 := by omega
    have i0 := ih _ (List.getElem_mem (by omega : 0 < t.kids.length)) (hkf 0 (by omega))
    have i1 := ih _ (List.getElem_mem (by omega : 1 < t.kids.length)) (hkf 1 (by omega))
    have ev : fitsK k t = true ↔ (valT k t).length = k := by
      unfold fitsK toldK valT
      rcases h with h | h
      · rw [if_pos h]
        simp [h, take_sum_len hk]
      · rw [if_neg (by omega)]
        simp [h]
    have ek : t.kids.all (allT (fitsK k)) = true ↔ allT (fitsK k) (t.kids[0]'(by omega)) = true ∧ allT (fitsK k) (t.kids[1]'(by omega)) = true := by
      rw [List.all_eq_true]
      constructor
      · exact fun hh => ⟨hh _ (List.getElem_mem _), hh _ (List.getElem_mem _)⟩
      · intro hh x hx
        obtain ⟨i, hi, rfl⟩ := List.getElem_of_mem hx
        rcases (by omega : i = 0 ∨ i = 1) with rfl | rfl
        · exact hh.1
        · exact hh.2
    rw [ev, ek, i0, i1]
    constructor
    · rintro ⟨hv, ⟨l, hl⟩, ⟨r, hr⟩⟩
      rw [digT_node n0 n3 hv h2, hl, hr]
      exact ⟨_, rfl⟩
    · rintro ⟨zs, hz⟩
      obtain ⟨hv, l, r, hl, hr, -⟩ := digT_split n0 n3 h2 hz
      exact ⟨hv, ⟨l, hl⟩, ⟨r, hr⟩⟩
theorem fits_none {k : Nat} (hk : k ≤ 32) {t : Tr} (hf : formedT t = true) (hd : digT k t = none) : allT (fitsK k) t = false := by
  rw [Bool.eq_false_iff]
  intro h
  obtain ⟨zs, hz⟩ := (fits_dig hk t hf).1 h
  rw [hd] at hz
  cases hz

set_option maxRecDepth 100000 in
set_option maxHeartbeats 4000000 in
theorem digest_arg (x : Int) (t : Tr) (h : TH) (w : World) (ht : InTree w h t) (hx1 : -9223372036854775808 ≤ x) (hxx : x ≤ 9223372036854775807) (hx : ¬ (1 ≤ x ∧ x ≤ 32)) :
    Calls Tryd.prog 14 #[.int .i64 x, h.v] w (ErrPost w 1) := by
  unfold TH.v
  have hb1 : Below w.heap.size w (w.alloc (.cells #[.int .i64 x] 3)) := (Below.refl _ _).alloc (Nat.le_refl _) _
  have hv1 := Var1.new w 3 (.int .i64 x)
  have hs1 : (w.alloc (.cells #[.int .i64 x] 3)).heap.size = w.heap.size + 1 := by simp
  have hb2 : Below w.heap.size w ((w.alloc (.cells #[.int .i64 x] 3)).alloc (.cells #[.int .i64 h.k, .slice h.ka h.kn h.kc, .slice h.va h.vn h.vc, .slice h.da h.dn h.dc, .slice h.ta h.tn h.tc] 25)) := hb1.alloc (by rw [hs1]; omega) _
  have hv2 := hv1.below ((Below.refl _ _).alloc (Nat.le_refl _) (.cells #[.int .i64 h.k, .slice h.ka h.kn h.kc, .slice h.va h.vn h.vc, .slice h.da h.dn h.dc, .slice h.ta h.tn h.tc] 25)) hv1.lt
  have hx2 := Box.new (w.alloc (.cells #[.int .i64 x] 3)) 25 h
  rw [hs1] at hx2
  clear hb1 hv1 hs1
  go_enter Tryd.func14, Tryd.ntmps14
  go_upto_region 1 with fail
  generalize ((w.alloc (.cells #[.int .i64 x] 3)).alloc (.cells #[.int .i64 h.k, .slice h.ka h.kn h.kc, .slice h.va h.vn h.vc, .slice h.da h.dn h.dc, .slice h.ta h.tn h.tc] 25)) = w2 at *
  have xv := hv2.cell
  obtain ⟨x0, x1, x2, x3, x4⟩ := hx2.cells
  have HB2 := Lib.hid hb2
  have HV2 := Lib.hid hv2
  have HX2 := Lib.hid hx2
  clear hb2 hv2 hx2
  by_cases hq : x < 1
  · go_wp2_with fail
    go_ret2
    exact ⟨none, 0, rfl, HB2.out⟩
  · have hq2 : 32 < x := by omega
    go_wp2_with fail
    go_ret2
    exact ⟨none, 0, rfl, HB2.out⟩

set_option maxRecDepth 100000 in
set_option maxHeartbeats 4000000 in
theorem digest_err (k : Nat) (hk1 : 1 ≤ k) (hk2 : k ≤ 32) (t : Tr) (h : TH) (w : World) (ht : InTree w h t) (hc : checkT t ≠ 0) :
    Calls Tryd.prog 14 #[.int .i64 k, h.v] w (ErrPost w (checkT t)) := by
  have HTT := Lib.hid ht
  have HCZ := Lib.hid hc
  clear ht hc
  unfold TH.v
  have hb1 : Below w.heap.size w (w.alloc (.cells #[.int .i64 k] 3)) := (Below.refl _ _).alloc (Nat.le_refl _) _
  have hv1 := Var1.new w 3 (.int .i64 k)
  have hs1 : (w.alloc (.cells #[.int .i64 k] 3)).heap.size = w.heap.size + 1 := by simp
  have hb2 : Below w.heap.size w ((w.alloc (.cells #[.int .i64 k] 3)).alloc (.cells #[.int .i64 h.k, .slice h.ka h.kn h.kc, .slice h.va h.vn h.vc, .slice h.da h.dn h.dc, .slice h.ta h.tn h.tc] 25)) := hb1.alloc (by rw [hs1]; omega) _
  have hv2 := hv1.below ((Below.refl _ _).alloc (Nat.le_refl _) (.cells #[.int .i64 h.k, .slice h.ka h.kn h.kc, .slice h.va h.vn h.vc, .slice h.da h.dn h.dc, .slice h.ta h.tn h.tc] 25)) hv1.lt
  have hx2 := Box.new (w.alloc (.cells #[.int .i64 k] 3)) 25 h
  rw [hs1] at hx2
  clear hb1 hv1 hs1
  go_enter Tryd.func14, Tryd.ntmps14
  go_upto_region 1 with fail
  generalize ((w.alloc (.cells #[.int .i64 k] 3)).alloc (.cells #[.int .i64 h.k, .slice h.ka h.kn h.kc, .slice h.va h.vn h.vc, .slice h.da h.dn h.dc, .slice h.ta h.tn h.tc] 25)) = w2 at *
  have xv := hv2.cell
  obtain ⟨x0, x1, x2, x3, x4⟩ := hx2.cells
  have HB2 := Lib.hid hb2
  have HV2 := Lib.hid hv2
  have HX2 := Lib.hid hx2
  clear hb2 hv2 hx2
  have q1 : ¬ (k : Int) < 1 := by omega
  have q2 : ¬ (32 : Int) < k := by omega
  go_wp2_with (first
    | (go_at_call 31
       refine (check_any t h _ (HTT.out.lower HB2.out)).mono ?_
       rintro _ w3 ⟨rfl, hb3⟩
       have HB3 : Hid (Below w.heap.size w w3) := Lib.hid (HB2.out.trans (hb3.mono HB2.out.size))
       have HV3 := Lib.hid (HV2.out.below hb3 HV2.out.lt)
       have HX3 := Lib.hid (HX2.out.below hb3 HX2.out.lt)
       rw [codeV_pos HCZ.out]
       clear xv x0 x1 x2 x3 x4 hb3))
  go_ret2
  exact ⟨none, 0, by rw [codeV_pos HCZ.out]; rfl, HB3.out⟩

set_option maxRecDepth 100000 in
set_option maxHeartbeats 4000000 in
theorem digest_none (k : Nat) (hk1 : 1 ≤ k) (hk2 : k ≤ 32) (t : Tr) (h : TH) (w : World) (ht : InTree w h t) (hT : TabLies w) (hc : checkT t = 0) (hd : digT k t = none) :
    Calls Tryd.prog 14 #[.int .i64 k, h.v] w (ErrPost w 3) := by
  have HTT := Lib.hid ht
  have HFI := Lib.hid (fits_none hk2 (check_zero hc).1 hd)
  have HCZ := Lib.hid hc
  clear ht hc hd hT
  unfold TH.v
  have hb1 : Below w.heap.size w (w.alloc (.cells #[.int .i64 k] 3)) := (Below.refl _ _).alloc (Nat.le_refl _) _
  have hv1 := Var1.new w 3 (.int .i64 k)
  have hs1 : (w.alloc (.cells #[.int .i64 k] 3)).heap.size = w.heap.size + 1 := by simp
  have hb2 : Below w.heap.size w ((w.alloc (.cells #[.int .i64 k] 3)).alloc (.cells #[.int .i64 h.k, .slice h.ka h.kn h.kc, .slice h.va h.vn h.vc, .slice h.da h.dn h.dc, .slice h.ta h.tn h.tc] 25)) := hb1.alloc (by rw [hs1]; omega) _
  have hv2 := hv1.below ((Below.refl _ _).alloc (Nat.le_refl _) (.cells #[.int .i64 h.k, .slice h.ka h.kn h.kc, .slice h.va h.vn h.vc, .slice h.da h.dn h.dc, .slice h.ta h.tn h.tc] 25)) hv1.lt
  have hx2 := Box.new (w.alloc (.cells #[.int .i64 k] 3)) 25 h
  rw [hs1] at hx2
  clear hb1 hv1 hs1
  go_enter Tryd.func14, Tryd.ntmps14
  go_upto_region 1 with fail
  generalize ((w.alloc (.cells #[.int .i64 k] 3)).alloc (.cells #[.int .i64 h.k, .slice h.ka h.kn h.kc, .slice h.va h.vn h.vc, .slice h.da h.dn h.dc, .slice h.ta h.tn h.tc] 25)) = w2 at *
  have xv := hv2.cell
  obtain ⟨x0, x1, x2, x3, x4⟩ := hx2.cells
  have HB2 := Lib.hid hb2
  have HV2 := Lib.hid hv2
  have HX2 := Lib.hid hx2
  clear hb2 hv2 hx2
  have q1 : ¬ (k : Int) < 1 := by omega
  have q2 : ¬ (32 : Int) < k := by omega
  have hmf : ∀ (fn : Fn) (first cap : Array Value) (w : World), (Instr.makeFunc fn first cap).run Tryd.prog w = .ok (.func fn first cap) w := fun _ _ _ _ => rfl
  go_upto_region 6 with (first
    | (go_at_call 31
       refine (check_any t h _ (HTT.out.lower HB2.out)).mono ?_
       rintro _ w3 ⟨rfl, hb3⟩
       have HB3 : Hid (Below w.heap.size w w3) := Lib.hid (HB2.out.trans (hb3.mono HB2.out.size))
       have HV3 := Lib.hid (HV2.out.below hb3 HV2.out.lt)
       have HX3 := Lib.hid (HX2.out.below hb3 HX2.out.lt)
       have hcv : codeV (checkT t) = .nilIface := by rw [HCZ.out]; rfl
       rw [hcv]
       clear hcv
       clear xv x0 x1 x2 x3 x4 hb3))
  obtain ⟨x0, x1, x2, x3, x4⟩ := HX3.out.cells
  go_upto_if 25 with (first
    | (go_at_call 34
       refine (everyFits k w.heap.size t h _ (HTT.out.lower HB3.out) HV3.out).mono ?_
       rintro _ w4 ⟨rfl, hb4⟩
       have HB4 : Hid (Below w.heap.size w w4) := Lib.hid (HB3.out.trans (hb4.mono HB3.out.size))
       have HV4 := Lib.hid (HV3.out.below hb4 HV3.out.lt)
       have HX4 := Lib.hid (HX3.out.below hb4 HX3.out.lt)
       rw [HFI.out]
       clear hb4))
  clear x0 x1 x2 x3 x4
  go_wp2_with fail
  go_ret2
  exact ⟨none, 0, rfl, HB4.out⟩

set_option maxRecDepth 100000 in
set_option maxHeartbeats 4000000 in
theorem digest_ok (k : Nat) (hk1 : 1 ≤ k) (hk2 : k ≤ 32) (t : Tr) (h : TH) (w : World) (ht : InTree w h t) (hT : TabLies w) (hc : checkT t = 0) {zs : List Int} (hd : digT k t = some zs) :
    Calls Tryd.prog 14 #[.int .i64 k, h.v] w (BytesPost w zs) := by
  have HTT := Lib.hid ht
  have HT := Lib.hid hT
  have HFI := Lib.hid ((fits_dig hk2 t (check_zero hc).1).2 ⟨zs, hd⟩)
  have HCZ := Lib.hid hc
  have HDG := Lib.hid hd
  clear ht hc hd hT
  unfold TH.v
  have hb1 : Below w.heap.size w (w.alloc (.cells #[.int .i64 k] 3)) := (Below.refl _ _).alloc (Nat.le_refl _) _
  have hv1 := Var1.new w 3 (.int .i64 k)
  have hs1 : (w.alloc (.cells #[.int .i64 k] 3)).heap.size = w.heap.size + 1 := by simp
  have hb2 : Below w.heap.size w ((w.alloc (.cells #[.int .i64 k] 3)).alloc (.cells #[.int .i64 h.k, .slice h.ka h.kn h.kc, .slice h.va h.vn h.vc, .slice h.da h.dn h.dc, .slice h.ta h.tn h.tc] 25)) := hb1.alloc (by rw [hs1]; omega) _
  have hv2 := hv1.below ((Below.refl _ _).alloc (Nat.le_refl _) (.cells #[.int .i64 h.k, .slice h.ka h.kn h.kc, .slice h.va h.vn h.vc, .slice h.da h.dn h.dc, .slice h.ta h.tn h.tc] 25)) hv1.lt
  have hx2 := Box.new (w.alloc (.cells #[.int .i64 k] 3)) 25 h
  rw [hs1] at hx2
  clear hb1 hv1 hs1
  go_enter Tryd.func14, Tryd.ntmps14
  go_upto_region 1 with fail
  generalize ((w.alloc (.cells #[.int .i64 k] 3)).alloc (.cells #[.int .i64 h.k, .slice h.ka h.kn h.kc, .slice h.va h.vn h.vc, .slice h.da h.dn h.dc, .slice h.ta h.tn h.tc] 25)) = w2 at *
  have xv := hv2.cell
  obtain ⟨x0, x1, x2, x3, x4⟩ := hx2.cells
  have HB2 := Lib.hid hb2
  have HV2 := Lib.hid hv2
  have HX2 := Lib.hid hx2
  clear hb2 hv2 hx2
  have q1 : ¬ (k : Int) < 1 := by omega
  have q2 : ¬ (32 : Int) < k := by omega
  have hmf : ∀ (fn : Fn) (first cap : Array Value) (w : World), (Instr.makeFunc fn first cap).run Tryd.prog w = .ok (.func fn first cap) w := fun _ _ _ _ => rfl
  go_upto_region 6 with (first
    | (go_at_call 31
       refine (check_any t h _ (HTT.out.lower HB2.out)).mono ?_
       rintro _ w3 ⟨rfl, hb3⟩
       have HB3 : Hid (Below w.heap.size w w3) := Lib.hid (HB2.out.trans (hb3.mono HB2.out.size))
       have HV3 := Lib.hid (HV2.out.below hb3 HV2.out.lt)
       have HX3 := Lib.hid (HX2.out.below hb3 HX2.out.lt)
       have hcv : codeV (checkT t) = .nilIface := by rw [HCZ.out]; rfl
       rw [hcv]
       clear hcv
       clear xv x0 x1 x2 x3 x4 hb3))
  obtain ⟨x0, x1, x2, x3, x4⟩ := HX3.out.cells
  go_upto_if 25 with (first
    | (go_at_call 34
       refine (everyFits k w.heap.size t h _ (HTT.out.lower HB3.out) HV3.out).mono ?_
       rintro _ w4 ⟨rfl, hb4⟩
       have HB4 : Hid (Below w.heap.size w w4) := Lib.hid (HB3.out.trans (hb4.mono HB3.out.size))
       have HV4 := Lib.hid (HV3.out.below hb4 HV3.out.lt)
       have HX4 := Lib.hid (HX3.out.below hb4 HX3.out.lt)
       rw [HFI.out]
       clear hb4))
  clear x0 x1 x2 x3 x4
  go_upto_region 10 with fail
  have hb5 : Below w4.heap.size w4 (w4.alloc (.cells #[.nilFunc] 71)) := (Below.refl _ _).alloc (Nat.le_refl _) _
  have hnf := Var1.new w4 71 .nilFunc
  have hbx := HX4.out.below hb5 HX4.out.lt
  have hvw := HV4.out.below hb5 HV4.out.lt
  have hsz := HB4.out.size
  generalize w4.alloc (.cells #[.nilFunc] 71) = w5 at *
  have c0 := hnf.cell
  have c1 := hnf.frozen 0
  have hne : w.heap.size + 1 ≠ w4.heap.size := Nat.ne_of_lt HX4.out.lt
  have hne2 : w.heap.size ≠ w4.heap.size := Nat.ne_of_lt HV4.out.lt
  have hn6 := hnf.set (.func (.func 35) #[] #[.pointer (some ⟨w.heap.size, 0, none⟩), .pointer (some ⟨w4.heap.size, 0, none⟩)])
  have hbx6 : Box (w5.setCell ⟨w4.heap.size, 0, none⟩ (.func (.func 35) #[] #[.pointer (some ⟨w.heap.size, 0, none⟩), .pointer (some ⟨w4.heap.size, 0, none⟩)])) 25 (w.heap.size + 1) h := (Below.heap_setCell w5 ⟨w4.heap.size, 0, none⟩ _ (w.heap.size + 1) hne).trans hbx
  have hvw6 := hvw.far (p := ⟨w4.heap.size, 0, none⟩) hne2 (.func (.func 35) #[] #[.pointer (some ⟨w.heap.size, 0, none⟩), .pointer (some ⟨w4.heap.size, 0, none⟩)])
  have hb6 : Below w4.heap.size w4 (w5.setCell ⟨w4.heap.size, 0, none⟩ (.func (.func 35) #[] #[.pointer (some ⟨w.heap.size, 0, none⟩), .pointer (some ⟨w4.heap.size, 0, none⟩)])) := hb5.setCell (Nat.le_refl _) _
  clear hnf hbx hb5 hne hne2 hvw
  generalize w4.heap.size = gc at *
  go_upto_region 11 with fail
  generalize (w5.setCell ⟨gc, 0, none⟩ (.func (.func 35) #[] #[.pointer (some ⟨w.heap.size, 0, none⟩), .pointer (some ⟨gc, 0, none⟩)])) = w6 at *
  obtain ⟨x0, x1, x2, x3, x4⟩ := hbx6.cells
  have c2 := hn6.cell
  have HN := Lib.hid hn6
  have HW6 := Lib.hid hvw6
  have HB6 : Hid (Below w.heap.size w w6) := Lib.hid (HB4.out.trans (hb6.mono hsz))
  clear c0 c1 hbx6 hb6 hn6 hsz hvw6
  go_wp2_with (first
    | (go_at_call 35
       refine (digC_any k hk1 hk2 t h _ w.heap.size gc (HTT.out.lower HB6.out) (HT.out.below HB6.out (Nat.le_refl _)) (check_zero HCZ.out).1 HW6.out HN.out zs HDG.out).mono ?_
       rintro _ w7 ⟨a7, c7, rfl, hn7, hb7⟩
       have HB7 : Hid (Below w.heap.size w w7) := Lib.hid (HB6.out.trans (hb7.mono HB6.out.size))
       have HN7 : Hid (NewB w w7 a7 zs.length c7 zs) := Lib.hid ⟨hn7.inb, fun ad hh => Nat.le_trans HB6.out.size (hn7.new ad hh), hn7.free⟩
       clear hb7 hn7))
  go_ret2
  exact ⟨a7, c7, rfl, HN7.out, HB7.out⟩
end Go.Proofs.YtkfjhegehhahcaaDoor

/- The contract of bytes.Clone. -/
namespace Go.Proofs.YtkfjhegehhahcaaDoor
open Go.RowKit
set_option linter.unusedVariables false

/-- A slice of new memory, or nil, that holds the bytes bs. -/
def NewBytes (w : World) (bs : List Int) (e : Ending) (w' : World) : Prop :=
  ∃ a2 c2, e = .returned (.slice a2 bs.length c2) ∧ InBytes w' a2 bs.length c2 bs ∧ (∀ ad, a2 = some ad → w.heap.size ≤ ad.block ∧ ad.block < w'.heap.size) ∧ Below w.heap.size w w'
set_option maxRecDepth 100000 in
set_option maxHeartbeats 2000000 in
theorem clone_any (a : Option Addr) (n cap : Nat) (bs : List Int) (w : World) (hin : InBytes w a n cap bs) (hn : n ≤ 140737488355328) :
    Calls Tryd.prog 38 #[.slice a n cap] w (NewBytes w bs) := by
  obtain ⟨i0, hi0, hz0, hz1, hz2⟩ := info_parts infoU8
  have hq : ∀ (w : World) (a : Option Addr) (n c n' c' : Nat), (binOp .eql 22 (.slice a n c) (.slice none n' c')).run Tryd.prog w = .ok (.bool a.isNone) w := fun w a n c n' c' => Lib.run_eql_slice_nil w _ _ a n c n' c' Tryd.underlying22
  have HIN := Lib.hid hin
  clear hin
  go_enter Tryd.func38, Tryd.ntmps38
  cases a with
  | none =>
    have hc := HIN.out.nil rfl
    have hk : n = 0 := by have := HIN.out.le; omega
    subst hc
    subst hk
    have hr : bs = [] := List.eq_nil_of_length_eq_zero HIN.out.len
    subst hr
    have e : (none : Option Addr).isNone = true := rfl
    go_wp2_with fail
    go_ret
    exact ⟨none, 0, rfl, none_in _, (fun ad h => by cases h), Below.refl _ _⟩
  | some ad =>
    have e : (some ad : Option Addr).isNone = false := rfl
    have hl := HIN.out.len
    go_wp2_with (first
      | (at_builtin
         refine wpList_append_bytes' _ rfl (.tmp 5) (.tmp 6) 22 rfl w.heap.size 5 i0 _ 1 Tryd.underlying22 hi0 hz0 hz1 hz2 rfl w.heap.size 0 0 [] rfl (own_new w 5 .u8 [] w.heap.size (Nat.le_refl _) (by simp [maxLen])) (some ad) n cap bs rfl (HIN.out.below ((Below.refl _ _).alloc (Nat.le_refl _) _)) (by simp only [maxLen]; omega) (by omega) (by simp) ?_
         intro g1 c1 w1 hown1 hg1
         have HO1 := Lib.hid hown1
         have HB1 : Hid (Below w.heap.size w w1) := Lib.hid (below_only ((Below.refl _ _).alloc (Nat.le_refl _) _) hg1 (by simp) (Nat.le_refl _))
         clear hown1 hg1))
    go_ret
    have ho := HO1.out
    rw [List.nil_append, Nat.zero_add] at ho
    refine ⟨some ⟨g1, 0, none⟩, c1, by rw [hl]; rfl, by rw [hl]; exact InBytes.of_own ho HIN.out.bytes, fun ad h => ?_, HB1.out⟩
    injection h with h
    rw [← h]
    exact ho.lt g1 rfl
end Go.Proofs.YtkfjhegehhahcaaDoor

/- AVL trees: what the document says of them, as functions, and that they stay balanced. No program is named here. -/
namespace Go.Proofs.YtkfjhegehhahcaaDoor
set_option linter.unusedVariables false

/-- The order of keys: bytewise. -/
def ltL : List Int → List Int → Bool
  | _, [] => false
  | [], _ :: _ => true
  | a :: x, b :: y => decide (a < b) || (a == b && ltL x y)
theorem ltL_irr : ∀ a : List Int, ltL a a = false
  | [] => rfl
  | a :: x => by simp [ltL, ltL_irr x]
theorem ltL_trans : ∀ {a b c : List Int}, ltL a b = true → ltL b c = true → ltL a c = true
  | _, [], _, h, _ => by simp [ltL] at h
  | _, _ :: _, [], _, h => by simp [ltL] at h
  | [], b :: y, c :: z, _, _ => rfl
  | a :: x, b :: y, c :: z, h1, h2 => by
    simp only [ltL, Bool.or_eq_true, decide_eq_true_eq, Bool.and_eq_true, beq_iff_eq] at h1 h2 ⊢
    rcases h1 with h1 | ⟨h1, h1'⟩
    · rcases h2 with h2 | ⟨h2, _⟩
      · left; omega
      · left; omega
    · rcases h2 with h2 | ⟨h2, h2'⟩
      · left; omega
      · right; exact ⟨by omega, ltL_trans h1' h2'⟩
theorem ltL_asymm {a b : List Int} (h : ltL a b = true) : ltL b a = false := by
  rw [Bool.eq_false_iff]
  intro h2
  have := ltL_trans h h2
  rw [ltL_irr] at this
  cases this
theorem ltL_eq : ∀ {a b : List Int}, ltL a b = false → ltL b a = false → a = b
  | [], [], _, _ => rfl
  | [], b :: y, h, _ => by simp [ltL] at h
  | a :: x, [], _, h => by simp [ltL] at h
  | a :: x, b :: y, h1, h2 => by
    simp only [ltL, Bool.or_eq_false_iff, decide_eq_false_iff_not, Bool.and_eq_false_iff, beq_eq_false_iff_ne] at h1 h2
    have hab : a = b := by omega
    subst hab
    rcases h1.2 with h | h
    · exact absurd rfl h
    · rcases h2.2 with h' | h'
      · exact absurd rfl h'
      · rw [ltL_eq h h']
theorem ltL_ne {a b : List Int} (h : ltL a b = true) : a ≠ b := by
  rintro rfl
  rw [ltL_irr] at h
  cases h
theorem ltL_three (a b : List Int) : ltL a b = true ∨ a = b ∨ ltL b a = true := by
  cases h1 : ltL a b
  · cases h2 : ltL b a
    · exact .inr (.inl (ltL_eq h1 h2))
    · exact .inr (.inr rfl)
  · exact .inl rfl

/-- A full tree. -/
inductive AT where
  | nil
  | node (l : AT) (k v : List Int) (r : AT)
def AT.depth : AT → Nat
  | .nil => 0
  | .node l _ _ r => max l.depth r.depth + 1
/-- Its pairs, by the order of their keys. -/
def AT.pairs : AT → List (List Int × List Int)
  | .nil => []
  | .node l k v r => l.pairs ++ ((k, v) :: r.pairs)
def AT.bal : AT → Prop
  | .nil => True
  | .node l _ _ r => l.bal ∧ r.bal ∧ l.depth ≤ r.depth + 1 ∧ r.depth ≤ l.depth + 1
def AT.tilt : AT → Int
  | .nil => 0
  | .node l _ _ r => (l.depth : Int) - (r.depth : Int)
def AT.right : AT → AT
  | .node (.node ll lk lv lr) k v r => .node ll lk lv (.node lr k v r)
  | t => t
def AT.left : AT → AT
  | .node l k v (.node rl rk rv rr) => .node (.node l k v rl) rk rv rr
  | t => t
def AT.level : AT → AT
  | .nil => .nil
  | .node l k v r =>
    if (l.depth : Int) - (r.depth : Int) = 2 then AT.right (.node (if l.tilt < 0 then l.left else l) k v r)
    else if (l.depth : Int) - (r.depth : Int) = -2 then AT.left (.node l k v (if 0 < r.tilt then r.right else r))
    else .node l k v r
def AT.isNil : AT → Bool
  | .nil => true
  | _ => false
theorem AT.isNil_eq {a : AT} (h : a.isNil = true) : a = .nil := by
  cases a with
  | nil => rfl
  | node l k v r => cases h
def AT.put (key val : List Int) : AT → AT
  | .nil => .node .nil key val .nil
  | .node l k v r => if key = k then .node l key val r else if ltL key k then (AT.node (AT.put key val l) k v r).level else (AT.node l k v (AT.put key val r)).level
def AT.del (key : List Int) : AT → AT
  | .nil => .nil
  | .node l k v r =>
    if ltL key k then (AT.node (AT.del key l) k v r).level
    else if ltL k key then (AT.node l k v (AT.del key r)).level
    else if l.isNil then r
    else if r.isNil then l
    else (AT.node l (r.pairs.headD ([], [])).1 (r.pairs.headD ([], [])).2 (AT.del (r.pairs.headD ([], [])).1 r)).level
def AT.get (key : List Int) (a : AT) : Option (List Int) := (a.pairs.find? fun p => p.1 == key).map (·.2)

theorem AT.level_node (l : AT) (k v : List Int) (r : AT) : (AT.node l k v r).level = if (l.depth : Int) - (r.depth : Int) = 2 then AT.right (.node (if l.tilt < 0 then l.left else l) k v r)
    else if (l.depth : Int) - (r.depth : Int) = -2 then AT.left (.node l k v (if 0 < r.tilt then r.right else r)) else .node l k v r := rfl
theorem AT.put_node (key val : List Int) (l : AT) (k v : List Int) (r : AT) : (AT.node l k v r).put key val = if key = k then .node l key val r else if ltL key k then (AT.node (AT.put key val l) k v r).level else (AT.node l k v (AT.put key val r)).level := by rw [AT.put]
theorem AT.del_node (key : List Int) (l : AT) (k v : List Int) (r : AT) : (AT.node l k v r).del key = if ltL key k then (AT.node (AT.del key l) k v r).level else if ltL k key then (AT.node l k v (AT.del key r)).level else if l.isNil then r else if r.isNil then l
    else (AT.node l (r.pairs.headD ([], [])).1 (r.pairs.headD ([], [])).2 (AT.del (r.pairs.headD ([], [])).1 r)).level := by rw [AT.del]
theorem AT.right_pairs (t : AT) : t.right.pairs = t.pairs := by
  unfold AT.right
  split
  · simp [AT.pairs]
  · rfl
theorem AT.left_pairs (t : AT) : t.left.pairs = t.pairs := by
  unfold AT.left
  split
  · simp [AT.pairs]
  · rfl
theorem AT.level_pairs (t : AT) : t.level.pairs = t.pairs := by
  cases t with
  | nil => rfl
  | node l k v r =>
    rw [AT.level_node]
    split
    · rw [AT.right_pairs]
      split
      · simp [AT.pairs, AT.left_pairs]
      · rfl
    · split
      · rw [AT.left_pairs]
        split
        · simp [AT.pairs, AT.right_pairs]
        · rfl
      · rfl
/-- A node whose kids' depths differ by two at most is balanced when it is leveled. -/
theorem AT.level_bal (l : AT) (k v : List Int) (r : AT) (hl : l.bal) (hr : r.bal) (h1 : l.depth ≤ r.depth + 2) (h2 : r.depth ≤ l.depth + 2) :
    (AT.node l k v r).level.bal ∧ max l.depth r.depth ≤ (AT.node l k v r).level.depth ∧ (AT.node l k v r).level.depth ≤ max l.depth r.depth + 1 ∧ (l.depth ≤ r.depth + 1 → r.depth ≤ l.depth + 1 → (AT.node l k v r).level.depth = max l.depth r.depth + 1) := by
  rw [AT.level_node]
  by_cases c1 : (l.depth : Int) - (r.depth : Int) = 2
  · rw [if_pos c1]
    cases l with
    | nil => simp [AT.depth] at c1 <;> omega
    | node ll lk lv lr =>
      simp only [AT.bal] at hl
      simp only [AT.depth] at c1 h1 h2
      by_cases c2 : (AT.node ll lk lv lr).tilt < 0
      · rw [if_pos c2]
        simp only [AT.tilt] at c2
        cases lr with
        | nil => simp [AT.depth] at c2 <;> omega
        | node a b c d =>
          simp only [AT.bal, AT.depth] at *
          simp only [AT.left, AT.right, AT.bal, AT.depth]
          refine ⟨⟨⟨hl.1, hl.2.1.1, ?_, ?_⟩, ⟨hl.2.1.2.1, hr, ?_, ?_⟩, ?_, ?_⟩, ?_, ?_, ?_⟩ <;> omega
      · rw [if_neg c2]
        simp only [AT.tilt] at c2
        simp only [AT.right, AT.bal, AT.depth]
        refine ⟨⟨hl.1, ⟨hl.2.1, hr, ?_, ?_⟩, ?_, ?_⟩, ?_, ?_, ?_⟩ <;> omega
  · rw [if_neg c1]
    by_cases c2 : (l.depth : Int) - (r.depth : Int) = -2
    · rw [if_pos c2]
      cases r with
      | nil => simp [AT.depth] at c2 <;> omega
      | node rl rk rv rr =>
        simp only [AT.bal] at hr
        simp only [AT.depth] at c2 h1 h2
        by_cases c3 : 0 < (AT.node rl rk rv rr).tilt
        · rw [if_pos c3]
          simp only [AT.tilt] at c3
          cases rl with
          | nil => simp [AT.depth] at c3 <;> omega
          | node a b c d =>
            simp only [AT.bal, AT.depth] at *
            simp only [AT.left, AT.right, AT.bal, AT.depth]
            refine ⟨⟨⟨hl, hr.1.1, ?_, ?_⟩, ⟨hr.1.2.1, hr.2.1, ?_, ?_⟩, ?_, ?_⟩, ?_, ?_, ?_⟩ <;> omega
        · rw [if_neg c3]
          simp only [AT.tilt] at c3
          simp only [AT.left, AT.bal, AT.depth]
          refine ⟨⟨⟨hl, hr.1, ?_, ?_⟩, hr.2.1, ?_, ?_⟩, ?_, ?_, ?_⟩ <;> omega
    · rw [if_neg c2]
      simp only [AT.bal, AT.depth]
      exact ⟨⟨hl, hr, by omega, by omega⟩, by omega, by omega, fun _ _ => trivial⟩
theorem AT.put_bal (key val : List Int) : ∀ a : AT, a.bal → (a.put key val).bal ∧ a.depth ≤ (a.put key val).depth ∧ (a.put key val).depth ≤ a.depth + 1 := by
  intro a
  induction a with
  | nil =>
    intro _
    simp [AT.put, AT.bal, AT.depth]
  | node l k v r ihl ihr =>
    intro hb
    simp only [AT.bal] at hb
    rw [AT.put_node]
    split
    · simp only [AT.bal, AT.depth]
      exact ⟨hb, by omega, by omega⟩
    · split
      · obtain ⟨b1, d1, d2⟩ := ihl hb.1
        obtain ⟨q1, q2, q3, q4⟩ := AT.level_bal (l.put key val) k v r b1 hb.2.1 (by omega) (by omega)
        refine ⟨q1, ?_, ?_⟩
        · simp only [AT.depth]
          by_cases c : (l.put key val).depth ≤ r.depth + 1
          · rw [q4 c (by omega)]; omega
          · omega
        · simp only [AT.depth]; omega
      · obtain ⟨b1, d1, d2⟩ := ihr hb.2.1
        obtain ⟨q1, q2, q3, q4⟩ := AT.level_bal l k v (r.put key val) hb.1 b1 (by omega) (by omega)
        refine ⟨q1, ?_, ?_⟩
        · simp only [AT.depth]
          by_cases c : (r.put key val).depth ≤ l.depth + 1
          · rw [q4 (by omega) c]; omega
          · omega
        · simp only [AT.depth]; omega
theorem AT.del_bal (key : List Int) : ∀ a : AT, a.bal → (a.del key).bal ∧ a.depth ≤ (a.del key).depth + 1 ∧ (a.del key).depth ≤ a.depth := by
  intro a
  induction a generalizing key with
  | nil =>
    intro _
    simp [AT.del, AT.bal, AT.depth]
  | node l k v r ihl ihr =>
    intro hb
    simp only [AT.bal] at hb
    have stepr : ∀ (x y key' : List Int), ((AT.node l x y (r.del key')).level.bal ∧ (AT.node l k v r).depth ≤ (AT.node l x y (r.del key')).level.depth + 1 ∧ (AT.node l x y (r.del key')).level.depth ≤ (AT.node l k v r).depth) := fun x y key' => by
      obtain ⟨b1, d1, d2⟩ := ihr key' hb.2.1
      obtain ⟨q1, q2, q3, q4⟩ := AT.level_bal l x y (r.del key') hb.1 b1 (by omega) (by omega)
      refine ⟨q1, ?_, ?_⟩
      · simp only [AT.depth]; omega
      · simp only [AT.depth]
        by_cases c : l.depth ≤ (r.del key').depth + 1
        · rw [q4 c (by omega)]; omega
        · omega
    rw [AT.del_node]
    split
    · obtain ⟨b1, d1, d2⟩ := ihl key hb.1
      obtain ⟨q1, q2, q3, q4⟩ := AT.level_bal (l.del key) k v r b1 hb.2.1 (by omega) (by omega)
      refine ⟨q1, ?_, ?_⟩
      · simp only [AT.depth]; omega
      · simp only [AT.depth]
        by_cases c : r.depth ≤ (l.del key).depth + 1
        · rw [q4 (by omega) c]; omega
        · omega
    · split
      · exact stepr k v key
      · split
        · rename_i hn
          obtain rfl := AT.isNil_eq hn
          simp only [AT.depth] at hb ⊢
          exact ⟨hb.2.1, by omega, by omega⟩
        · split
          · rename_i hn
            obtain rfl := AT.isNil_eq hn
            simp only [AT.depth] at hb ⊢
            exact ⟨hb.1, by omega, by omega⟩
          · exact stepr _ _ _
end Go.Proofs.YtkfjhegehhahcaaDoor

/- The order of strings is the order of keys. No program is named here. -/
namespace Go.Proofs.YtkfjhegehhahcaaDoor
open Go.RowKit
set_option linter.unusedVariables false

theorem bytesLess_lt : ∀ {xs ys : List Int}, Bytes8 xs → Bytes8 ys → Op.bytesLess (xs.map fun n => UInt8.ofNat n.toNat) (ys.map fun n => UInt8.ofNat n.toNat) = ltL xs ys
  | [], [], _, _ => rfl
  | _ :: _, [], _, _ => rfl
  | [], _ :: _, _, _ => rfl
  | x :: xs, y :: ys, hx, hy => by
    have h1 := hx x (by simp)
    have h2 := hy y (by simp)
    have ih := bytesLess_lt (xs := xs) (ys := ys) (fun z hz => hx z (by simp [hz])) (fun z hz => hy z (by simp [hz]))
    rw [List.map_cons, List.map_cons, Op.bytesLess, ltL, ih]
    have e1 : decide (UInt8.ofNat x.toNat < UInt8.ofNat y.toNat) = decide (x < y) := by
      rw [Bool.eq_iff_iff, decide_eq_true_eq, decide_eq_true_eq, UInt8.lt_iff_toNat_lt]
      simp only [UInt8.toNat_ofNat']
      omega
    have e2 : (UInt8.ofNat x.toNat == UInt8.ofNat y.toNat) = (x == y) := by
      rw [Bool.eq_iff_iff, beq_iff_eq, beq_iff_eq]
      constructor
      · intro h
        have h3 := congrArg UInt8.toNat h
        simp only [UInt8.toNat_ofNat'] at h3
        omega
      · rintro rfl
        rfl
    rw [e1, e2]
theorem str_lt {xs ys : List Int} (hx : Bytes8 xs) (hy : Bytes8 ys) : Op.bytesLess (strOfNums xs).toList (strOfNums ys).toList = ltL xs ys := by
  unfold strOfNums
  rw [ByteArray.toList_mk, ByteArray.toList_mk]
  exact bytesLess_lt hx hy
theorem str_eq {xs ys : List Int} (hx : Bytes8 xs) (hy : Bytes8 ys) : ((strOfNums xs).toList == (strOfNums ys).toList) = (xs == ys) := by
  by_cases h : xs = ys
  · subst h
    simp
  · rw [str_ne hx hy h, beq_eq_false_iff_ne.2 h]
end Go.Proofs.YtkfjhegehhahcaaDoor

/- Rows of trees in one's own memory. No program is named here. -/
namespace Go.Proofs.YtkfjhegehhahcaaDoor
open Go.RowKit
set_option linter.unusedVariables false

/-- The cells of trees, one behind the other. -/
def cellsT (hs : List TH) : List Value := hs.flatMap TH.cells
theorem cellsT_len (hs : List TH) : (cellsT hs).length = hs.length * 5 := by
  unfold cellsT
  induction hs with
  | nil => rfl
  | cons h r ih =>
    rw [List.flatMap_cons, List.length_append, ih]
    simp [TH.cells]
    omega
theorem cellsT_app (a b : List TH) : cellsT (a ++ b) = cellsT a ++ cellsT b := by simp [cellsT]
theorem cellsT_one {hs : List TH} {u : Value} (h : u ∈ cellsT hs) : u.oneCell' = true := by
  unfold cellsT at h
  rw [List.mem_flatMap] at h
  obtain ⟨x, _, hx⟩ := h
  simp [TH.cells] at hx
  rcases hx with rfl | rfl | rfl | rfl | rfl <;> rfl
theorem cellsT_get (hs : List TH) (i j : Nat) (hi : i < hs.length) (hj : j < 5) : (cellsT hs)[i * 5 + j]? = some (hs[i].cell j) := by
  induction hs generalizing i with
  | nil => simp at hi
  | cons h r ih =>
    have e : cellsT (h :: r) = h.cells ++ cellsT r := by simp [cellsT]
    rw [e]
    rcases i with _ | i
    · rw [List.getElem?_append_left (by simp [TH.cells]; omega)]
      rcases (by omega : j = 0 ∨ j = 1 ∨ j = 2 ∨ j = 3 ∨ j = 4) with rfl | rfl | rfl | rfl | rfl <;> rfl
    · rw [List.getElem?_append_right (by simp [TH.cells]; omega)]
      have e2 : (i + 1) * 5 + j - h.cells.length = i * 5 + j := by simp [TH.cells]; omega
      rw [e2, ih i (by simpa using hi)]
      simp

/-- A row of trees in new memory, from the block base on. -/
def OwnT (W : World) (base : Nat) (ty : TypeId) (v : Value) (hs : List TH) : Prop := W.ownsRow base ty 5 v hs.length (cellsT hs)
theorem OwnT.keep {W W' : World} {base : Nat} {ty : TypeId} {v : Value} {hs : List TH} (h : OwnT W base ty v hs) (hb : Below W.heap.size W W') : OwnT W' base ty v hs := by
  refine ⟨h.1, ?_⟩
  rcases h.2 with h1 | ⟨g, cap, cur, h1, h2, h3, h4⟩
  · exact .inl h1
  · have hlt : g < W.heap.size := by
      rcases Nat.lt_or_ge g W.heap.size with hlt | hge
      · exact hlt
      · rw [Array.getElem?_eq_none hge] at h3; cases h3
    exact .inr ⟨g, cap, cur, h1, h2, (hb.block g hlt).trans h3, h4⟩
theorem OwnT.weak {W : World} {base base' : Nat} {ty : TypeId} {v : Value} {hs : List TH} (h : OwnT W base ty v hs) (hb : base' ≤ base) : OwnT W base' ty v hs := by
  refine ⟨h.1, ?_⟩
  rcases h.2 with h1 | ⟨g, cap, cur, h1, h2, h3⟩
  · exact .inl h1
  · exact .inr ⟨g, cap, cur, h1, Nat.le_trans hb h2, h3⟩
theorem OwnT.nil (W : World) (base : Nat) (ty : TypeId) : OwnT W base ty (.slice none 0 0) [] := ⟨rfl, .inl ⟨rfl, rfl⟩⟩
/-- Its block, and its cells. -/
theorem OwnT.form {W : World} {base : Nat} {ty : TypeId} {v : Value} {hs : List TH} (h : OwnT W base ty v hs) : (v = .slice none 0 0 ∧ hs = []) ∨ ∃ g c, v = .slice (some ⟨g, 0, none⟩) hs.length c ∧ base ≤ g ∧ g < W.heap.size ∧ hs.length ≤ c ∧ c ≤ maxLen ∧ ∀ j u, (cellsT hs)[j]? = some u → W.cell? ⟨g, j, none⟩ = some u := by
  rcases h.2 with ⟨h1, h2⟩ | ⟨g, cap, cur, h1, h2, h3, h4, h5, h6, h7⟩
  · exact .inl ⟨h1, List.eq_nil_of_length_eq_zero h2⟩
  · right
    have hlt : g < W.heap.size := by
      rcases Nat.lt_or_ge g W.heap.size with hlt | hge
      · exact hlt
      · rw [Array.getElem?_eq_none hge] at h3; cases h3
    refine ⟨g, cap, h1, h2, hlt, h4, h5, fun j u hu => ?_⟩
    rw [cell_of_row W g j _ _ (0, 0) h3]
    rw [← h7, List.getElem?_take] at hu
    split at hu
    · simpa using hu
    · cases hu
/-- Where an append to a row of one's own puts it: where it was, or in the next new block. -/
theorem run_append_where {P : Program} (w : World) (base : Nat) (t ty e : TypeId) (i : TypeInfo) (z : Value) (size bytes : Nat) (ht : P.underlying t = some (.slice e)) (hi : P.info? e = some i) (hz : i.zero = some z)
    (hsize : i.size = size) (hby : i.bytes = bytes) (v : Value) (n : Nat) (xs : List Value) (hown : w.ownsRow base e size v n xs)
    (a : Addr) (m c : Nat) (news : List Value) (hl : news.length = m * size) (hnews : ∀ j u, news[j]? = some u → w.cell? (a.add j) = some u) (h1 : ∀ u ∈ news, u.oneCell' = true)
    (hzs : z.cells.size = size) (hsz : 0 < size) (hbase : base ≤ w.heap.size) (h63 : n + m ≤ maxLen) (hbytes : (n + m) * bytes ≤ 140737488355328) :
    ∃ v' w', (Builtin.append_ #[t, t] ty #[v, .slice (some a) m c]).run P w = .ok v' w' ∧ (v'.ownBlock = v.ownBlock ∨ v'.ownBlock = some w.heap.size) := by
  subst hsize
  subst hby
  simp only [maxLen] at h63
  rcases hown.2 with ⟨rfl, rfl⟩ | ⟨g, cap, cur, rfl, _, hg, _, _, hcs, _⟩
  · by_cases hm0 : 0 < m
    · exact ⟨_, _, run_append_nil (P := P) w t ty e i z ht hi hz a m c news hl hnews (by omega) (by omega) (by simp only [Nat.zero_add] at hbytes; omega), .inr rfl⟩
    · obtain ⟨v', w', hr, _, _, h4⟩ := run_append_own (P := P) w base t ty e i z i.size i.bytes ht hi hz rfl rfl hzs hsz (.slice none 0 0) 0 xs hown a m c news hl hnews h1 (by simp only [maxLen]; omega) hbytes hbase
      exact ⟨v', w', hr, .inl (by rw [h4.2 ⟨rfl, by omega⟩])⟩
  · by_cases hroom : n + m ≤ cap
    · exact ⟨_, _, run_append_room (P := P) w t ty e i ht hi g n cap cur hg a m c news hl hnews h1 hroom (by rw [hl, hcs, ← Nat.add_mul]; exact Nat.mul_le_mul_right _ hroom), .inl rfl⟩
    · exact ⟨_, _, run_append_grow (P := P) w t ty e i z ht hi hz ⟨g, 0, none⟩ n cap xs hown.1 (hown.cells (g := g) rfl) a m c news hl hnews (by omega) (by omega) (growslice_fits (by omega) hbytes), .inr rfl⟩
/-- append(a, b...), both rows of trees of one's own, at a step. -/
theorem wp_append_trees {P : Program} (w : World) {o : Oper} {a : Act} {K : Act → World → Prop} {Q : Exit → Act → World → Prop} (s x : Operand) (t : TypeId)
    (ho : o.op = .call { callee := .builtin .append, args := #[s, x], argTypes := #[t, t] })
    (base : Nat) (e : TypeId) (i : TypeInfo) (z : Value) (bytes : Nat) (ht : P.underlying t = some (.slice e)) (hi : P.info? e = some i) (hz : i.zero = some z)
    (hsize : i.size = 5) (hby : i.bytes = bytes) (hzs : z.cells.size = 5)
    (v : Value) (hs1 : List TH) (hs : a.eval s = v) (hown : OwnT w base e v hs1) (g c : Nat) (hs2 : List TH) (hx : a.eval x = .slice (some ⟨g, 0, none⟩) hs2.length c) (hcells : ∀ j u, (cellsT hs2)[j]? = some u → w.cell? ⟨g, j, none⟩ = some u)
    (hbytes : (hs1.length + hs2.length) * bytes ≤ 140737488355328) (hb0 : 0 < bytes) (hbase : base ≤ w.heap.size)
    (h : ∀ v' w', OwnT w' base e v' (hs1 ++ hs2) → w.grownBy w' v.ownBlock → (v'.ownBlock = v.ownBlock ∨ v'.ownBlock = some w.heap.size) → K (a.put o.dst v') w') : o.wp P a w K Q := by
  have hmax : hs1.length + hs2.length ≤ maxLen := by
    have : hs1.length + hs2.length ≤ (hs1.length + hs2.length) * bytes := Nat.le_mul_of_pos_right _ hb0
    simp only [maxLen]
    omega
  have hnews : ∀ j u, (cellsT hs2)[j]? = some u → w.cell? ((⟨g, 0, none⟩ : Addr).add j) = some u := fun j u hu => by
    have hp : (⟨g, 0, none⟩ : Addr).add j = ⟨g, j, none⟩ := by unfold Addr.add; split <;> simp_all
    rw [hp]
    exact hcells j u hu
  obtain ⟨v', w', hr, h2, h3, h4⟩ := run_append_own (P := P) w base t o.type e i z 5 bytes ht hi hz hsize hby hzs (by omega) v hs1.length (cellsT hs1) hown ⟨g, 0, none⟩ hs2.length c (cellsT hs2) (cellsT_len hs2) hnews (fun u hu => cellsT_one hu) hmax hbytes hbase
  obtain ⟨v2, w2, hr2, h5⟩ := run_append_where (P := P) w base t o.type e i z 5 bytes ht hi hz hsize hby v hs1.length (cellsT hs1) hown ⟨g, 0, none⟩ hs2.length c (cellsT hs2) (cellsT_len hs2) hnews (fun u hu => cellsT_one hu) hzs (by omega) hbase hmax hbytes
  rw [hr] at hr2
  injection hr2 with e1 e2
  subst e1 e2
  unfold Oper.wp execOp
  simp only [ho, resolve, invoke, builtin, Sem.run_bind, Sem.run_pure, Result.andThen_ok, List.map_toArray, List.map_cons, List.map_nil, hs, hx, hr]
  refine h v' w' ?_ h3 h5
  unfold OwnT
  rw [cellsT_app, List.length_append]
  exact h2
/-- append(a, b...), both rows of trees of one's own. -/
theorem wpList_append_trees {P : Program} (w : World) {ops : Array Oper} {rest : List Oper} {o : Oper} {a : Act} {Q : Exit → Act → World → Prop} (hgd : o.guard = none) (s x : Operand) (t : TypeId)
    (ho : o.op = .call { callee := .builtin .append, args := #[s, x], argTypes := #[t, t] })
    (base : Nat) (e : TypeId) (i : TypeInfo) (z : Value) (bytes : Nat) (ht : P.underlying t = some (.slice e)) (hi : P.info? e = some i) (hz : i.zero = some z)
    (hsize : i.size = 5) (hby : i.bytes = bytes) (hzs : z.cells.size = 5)
    (v : Value) (hs1 : List TH) (hs : a.eval s = v) (hown : OwnT w base e v hs1) (base2 : Nat) (v2 : Value) (hs2 : List TH) (hx : a.eval x = v2) (hown2 : OwnT w base2 e v2 hs2)
    (hbytes : (hs1.length + hs2.length) * bytes ≤ 140737488355328) (hb0 : 0 < bytes) (hbase : base ≤ w.heap.size)
    (h : ∀ v' w', OwnT w' base e v' (hs1 ++ hs2) → w.grownBy w' v.ownBlock → (v'.ownBlock = v.ownBlock ∨ v'.ownBlock = some w.heap.size) → wpList P ops Q rest (a.put o.dst v') w') : wpList P ops Q (o :: rest) a w := by
  rcases hown2.form with ⟨rfl, rfl⟩ | ⟨g, c, rfl, _, _, _, _, hcells⟩
  · refine wpList_append_own_none hgd s x t ho base e i 5 ht hi v hs1.length (cellsT hs1) hs hown hx ?_
    exact h v w (by simpa using hown) (only_refl w _) (.inl rfl)
  · refine wpList_plain hgd fun K hK => ?_
    exact wp_append_trees w s x t ho base e i z bytes ht hi hz hsize hby hzs v hs1 hs hown g c hs2 hx hcells hbytes hb0 hbase fun v' w' h1 h2 h3 => hK _ _ (h v' w' h1 h2 h3)
/-- A row of one tree, in a block of its own. -/
theorem OwnT.one {W : World} {ty : TypeId} {g base : Nat} {h : TH} (hb : Box W ty g h) (hg : base ≤ g) : OwnT W base ty (.slice (some ⟨g, 0, none⟩) 1 1) [h] :=
  ⟨by simp [cellsT, TH.cells], .inr ⟨g, 1, _, rfl, hg, hb, Nat.le_refl _, by simp [maxLen], rfl, rfl⟩⟩
/-- An empty row, in a block of its own. -/
theorem OwnT.empty (W : World) (ty : TypeId) (base : Nat) (hb : base ≤ W.heap.size) : OwnT (W.alloc (.cells #[] ty)) base ty (.slice (some ⟨W.heap.size, 0, none⟩) 0 0) [] :=
  ⟨rfl, .inr ⟨W.heap.size, 0, _, rfl, hb, heap_alloc_new W _, Nat.le_refl _, Nat.zero_le _, rfl, rfl⟩⟩
/-- A tree is stored at the end of a row of one's own, at a step. -/
theorem wp_store_last {P : Program} (w : World) {o : Oper} {a : Act} {K : Act → World → Prop} {Q : Exit → Act → World → Prop} (ty : TypeId) (x y : Operand) (ho : o.op = .store ty x y)
    (base : Nat) (e : TypeId) (g n c : Nat) (hs : List TH) (z h : TH) (hn : hs.length = n) (hown : OwnT w base e (.slice (some ⟨g, 0, none⟩) (n + 1) c) (hs ++ [z]))
    (hx : a.eval x = .pointer (some ⟨g, n * 5, none⟩)) (hy : a.eval y = h.v) (hi : (P.info? ty).map (·.size) = some 5)
    (hK : ∀ w', OwnT w' base e (.slice (some ⟨g, 0, none⟩) (n + 1) c) (hs ++ [h]) → w.grownBy w' (some g) → K (a.put o.dst undef) w') : o.wp P a w K Q := by
  have hlen : (hs ++ [z]).length = n + 1 := by simp [hn]
  have hlen2 : (hs ++ [h]).length = n + 1 := by simp [hn]
  unfold OwnT at hown
  rw [hlen] at hown
  rcases hown.2 with ⟨h1, _⟩ | ⟨g', cap, cur, h1, h2, h3, h4, h5, h6, h7⟩
  · cases h1
  · injection h1 with h1 _ h1c
    injection h1 with h1
    injection h1 with h1
    subst h1
    subst h1c
    have hl5 : h.cells.length = 5 := rfl
    have hcl := cellsT_len hs
    rw [hn] at hcl
    have hfit : n * 5 + 0 + h.cells.length ≤ cur.size := by rw [h6, hl5]; omega
    have hst := run_storeCells_at P g (n * 5) e h.cells 0 cur w h3 hfit (fun u hu => cellsT_one (hs := [h]) (by simpa [cellsT] using hu))
    cases hq : P.info? ty with
    | none => simp [hq] at hi
    | some i =>
      have hsz : i.size = 5 := by simp [hq] at hi; omega
      have hrun : (storeVar ty ⟨g, n * 5, none⟩ h.v).run P w = .ok () (w.setRow g (cur.toList.take (n * 5 + 0) ++ h.cells ++ cur.toList.drop (n * 5 + 0 + h.cells.length)).toArray) := by
        rw [← hst]
        simp [storeVar, sizeOf, typeInfo, hq, Value.cells, hsz, TH.v, TH.cells]
      unfold Oper.wp execOp
      simp only [ho, hx, hy, Instr.storeAt, Instr.sureAddr, Sem.run_bind, Sem.run_pure, Result.andThen_ok, hrun]
      refine hK _ ?_ ⟨rfl, rfl, rfl, by simp, fun j _ hne => setRow_other w g j _ (fun e => hne (by rw [e]))⟩
      have ht : cur.toList.take (n * 5) = cellsT hs := by
        have e1 : (cur.toList.take ((n + 1) * 5)).take (n * 5) = cur.toList.take (n * 5) := by rw [List.take_take]; congr 1; omega
        rw [← e1, h7, cellsT_app, ← hcl, List.take_left]
      unfold OwnT
      rw [hlen2]
      refine ⟨by rw [cellsT_len, hlen2], .inr ⟨g, c, _, rfl, h2, setRow_heap w g cur _ e _ h3, h4, h5, ?_, ?_⟩⟩
      · simp only [List.size_toArray, List.length_append, List.length_take, List.length_drop, Array.length_toList, hl5]
        omega
      · have ht0 : cur.toList.take (n * 5 + 0) = cellsT hs := ht
        rw [ht0, cellsT_app]
        have e2 : cellsT [h] = h.cells := by simp [cellsT]
        rw [e2]
        have e3 : (cellsT hs ++ h.cells).length = (n + 1) * 5 := by rw [List.length_append, hcl, hl5]; omega
        rw [← e3]
        exact List.take_left
theorem step_store_last {P : Program} (w : World) {ops : Array Oper} {o : Oper} {a : Act} {K : Act → World → Prop} {Q : Exit → Act → World → Prop} {E : Prop} (hgd : o.guard = none) (ty : TypeId) (x y : Operand) (ho : o.op = .store ty x y)
    (base : Nat) (e : TypeId) (g n c : Nat) (hs : List TH) (z h : TH) (hn : hs.length = n) (hown : OwnT w base e (.slice (some ⟨g, 0, none⟩) (n + 1) c) (hs ++ [z]))
    (hx : a.eval x = .pointer (some ⟨g, n * 5, none⟩)) (hy : a.eval y = h.v) (hi : (P.info? ty).map (·.size) = some 5)
    (hK : ∀ w', OwnT w' base e (.slice (some ⟨g, 0, none⟩) (n + 1) c) (hs ++ [h]) → w.grownBy w' (some g) → K (a.put o.dst undef) w') : if Region.wanted o (yielded ops a.tmps) = true then Oper.wp P o a w K Q else E := by
  have hw : Region.wanted o (yielded ops a.tmps) = true := by simp [Region.wanted, hgd]
  rw [if_pos hw]
  exact wp_store_last w ty x y ho base e g n c hs z h hn hown hx hy hi hK
theorem step_append_trees {P : Program} (w : World) {ops : Array Oper} {o : Oper} {a : Act} {K : Act → World → Prop} {Q : Exit → Act → World → Prop} {E : Prop} (hgd : o.guard = none) (s x : Operand) (t : TypeId)
    (ho : o.op = .call { callee := .builtin .append, args := #[s, x], argTypes := #[t, t] })
    (base : Nat) (e : TypeId) (i : TypeInfo) (z : Value) (bytes : Nat) (ht : P.underlying t = some (.slice e)) (hi : P.info? e = some i) (hz : i.zero = some z)
    (hsize : i.size = 5) (hby : i.bytes = bytes) (hzs : z.cells.size = 5)
    (v : Value) (hs1 : List TH) (hs : a.eval s = v) (hown : OwnT w base e v hs1) (g c : Nat) (hs2 : List TH) (hx : a.eval x = .slice (some ⟨g, 0, none⟩) hs2.length c) (hcells : ∀ j u, (cellsT hs2)[j]? = some u → w.cell? ⟨g, j, none⟩ = some u)
    (hbytes : (hs1.length + hs2.length) * bytes ≤ 140737488355328) (hb0 : 0 < bytes) (hbase : base ≤ w.heap.size)
    (h : ∀ v' w', OwnT w' base e v' (hs1 ++ hs2) → w.grownBy w' v.ownBlock → (v'.ownBlock = v.ownBlock ∨ v'.ownBlock = some w.heap.size) → K (a.put o.dst v') w') : if Region.wanted o (yielded ops a.tmps) = true then Oper.wp P o a w K Q else E := by
  have hw : Region.wanted o (yielded ops a.tmps) = true := by simp [Region.wanted, hgd]
  rw [if_pos hw]
  exact wp_append_trees w s x t ho base e i z bytes ht hi hz hsize hby hzs v hs1 hs hown g c hs2 hx hcells hbytes hb0 hbase h
/-- The cells of a box, as a row of one. -/
theorem Box.row {W : World} {ty : TypeId} {g : Nat} {h : TH} (hb : Box W ty g h) : ∀ j u, (cellsT [h])[j]? = some u → W.cell? ⟨g, j, none⟩ = some u := by
  intro j u hu
  rw [cell_of_row W g j _ _ (0, 0) hb]
  have e2 : cellsT [h] = h.cells := by simp [cellsT]
  rw [e2] at hu
  simpa [TH.cells] using hu
/-- Heads and trees, side by side. -/
def Heads (w : World) (hs : List TH) (ts : List Tr) : Prop := hs.length = ts.length ∧ ∀ i (h1 : i < hs.length) (h2 : i < ts.length), InTree w hs[i] ts[i]
theorem Heads.nil (w : World) : Heads w [] [] := ⟨rfl, fun i h1 => by simp at h1⟩
theorem Heads.app {w : World} {a b : List TH} {s t : List Tr} (h : Heads w a s) (h' : Heads w b t) : Heads w (a ++ b) (s ++ t) := by
  refine ⟨by simp [h.1, h'.1], fun i h1 h2 => ?_⟩
  by_cases hi : i < a.length
  · rw [List.getElem_append_left hi, List.getElem_append_left (by rw [← h.1]; exact hi)]
    exact h.2 i hi _
  · have e1 : (a ++ b)[i] = b[i - a.length]'(by rw [List.length_append] at h1; omega) := List.getElem_append_right (by omega)
    have e2 : (s ++ t)[i] = t[i - s.length]'(by rw [List.length_append] at h2; have := h.1; omega) := List.getElem_append_right (by have := h.1; omega)
    rw [e1, e2]
    have e3 : i - s.length = i - a.length := by rw [h.1]
    simp only [e3]
    exact h'.2 _ _ _
theorem Heads.one {w : World} {h : TH} {t : Tr} (ht : InTree w h t) : Heads w [h] [t] := ⟨rfl, fun i h1 h2 => by
  have h0 : i = 0 := by simpa using h1
  subst h0
  exact ht⟩
theorem Var1.ne {w : World} {ty ty' : TypeId} {g g' : Nat} {v v' : Value} (h : Var1 w ty g v) (h' : Var1 w ty' g' v') (hne : ty ≠ ty') : g ≠ g' := by
  rintro rfl
  unfold Var1 at h h'
  rw [h] at h'
  injection h' with h'
  injection h' with _ h' _
  exact hne h'
theorem Box.neV {w : World} {ty ty' : TypeId} {g g' : Nat} {h0 : TH} {v' : Value} (h : Box w ty g h0) (h' : Var1 w ty' g' v') (hne : ty ≠ ty') : g ≠ g' := by
  rintro rfl
  unfold Box at h
  unfold Var1 at h'
  rw [h] at h'
  injection h' with h'
  injection h' with _ h' _
  exact hne h'
theorem OwnT.neV {w : World} {base : Nat} {ty ty' : TypeId} {g' : Nat} {v v' : Value} {hs : List TH} (h : OwnT w base ty v hs) (h' : Var1 w ty' g' v') (hne : ty ≠ ty') : some g' ≠ v.ownBlock := by
  rcases h.2 with ⟨h1, _⟩ | ⟨g, cap, cur, h1, h2, h3, _⟩
  · rw [h1]
    intro q
    cases q
  · rw [h1]
    intro q
    have q' : g' = g := Option.some.inj q
    subst q'
    unfold Var1 at h'
    rw [h3] at h'
    injection h' with h'
    injection h' with _ h' _
    exact hne h'
/-- Its form. -/
theorem OwnT.sl {W : World} {base : Nat} {ty : TypeId} {v : Value} {hs : List TH} (h : OwnT W base ty v hs) : ∃ a c, v = .slice a hs.length c := by
  rcases h.form with ⟨h1, h2⟩ | ⟨g, c, h1, _⟩
  · exact ⟨none, 0, by rw [h1, h2]; rfl⟩
  · exact ⟨_, c, h1⟩
theorem OwnT.far {W : World} {base : Nat} {ty : TypeId} {v : Value} {hs : List TH} (h : OwnT W base ty v hs) {p : Addr} (hp : some p.block ≠ v.ownBlock) (u : Value) : OwnT (W.setCell p u) base ty v hs := by
  refine ⟨h.1, ?_⟩
  rcases h.2 with h1 | ⟨g, cap, cur, h1, h2, h3, h4⟩
  · exact .inl h1
  · refine .inr ⟨g, cap, cur, h1, h2, ?_, h4⟩
    rw [Below.heap_setCell W p u g (fun e => hp (by rw [h1, ← e]; rfl))]
    exact h3
/-- The empty tree's head. -/
def hZ : TH := ⟨0, none, 0, 0, none, 0, 0, none, 0, 0, none, 0, 0⟩
end Go.Proofs.YtkfjhegehhahcaaDoor
