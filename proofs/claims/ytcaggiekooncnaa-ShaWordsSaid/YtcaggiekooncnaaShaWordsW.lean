/- The walk of the law ShaWords. -/
import Derived.Test.YtcaggiekooncnaaWordC
import Derived.Test.YtcaggiekooncnaaWordD
import Derived.Lib.IfaceEq
namespace Go.Proofs.Ytcaggiekooncnaa
open Go.RowKit
set_option linter.unusedVariables false

theorem infoU8w : (Try.prog.info? 5).map (fun i => (i.zero, i.size, i.bytes)) = some (some (.int .u8 0), 1, 1) := by kernel_rfl
theorem compCodeW : (Try.prog.info? 27).map (·.comparable) = some true := by kernel_rfl
theorem eql_codeW (a b : Int) (w : World) : (binOp .eql 24 (.iface 27 (.int .i64 a)) (.iface 27 (.int .i64 b))).run Try.prog w = .ok (.bool (a == b)) w :=
  Lib.run_eql_iface_int w a b Try.underlying24 compCodeW Try.underlying27
theorem zeros_b8 (n : Nat) : Bytes8 (List.replicate n 0) := by
  intro z hz
  rw [List.mem_replicate] at hz
  omega
theorem own_cell {w : World} {base g n cap : Nat} {t : TypeId} {k : IntKind} {zs : List Int} (h : w.ownsRow base t 1 (.slice (some ⟨g, 0, none⟩) n cap) n (zs.map (Value.int k))) (i : Nat) (hi : i < n) :
    w.cell? ⟨g, i, none⟩ = some (.int k (zs.getD i 0)) := by
  have hl : zs.length = n := by simpa using h.1
  have h2 := h.cells (g := g) rfl i (.int k (zs.getD i 0)) (by simp [List.getD, hl ▸ hi])
  have hp : (⟨g, 0, none⟩ : Addr).add i = ⟨g, i, none⟩ := by unfold Addr.add; split <;> simp_all
  rw [hp] at h2
  exact h2

set_option maxRecDepth 100000 in
set_option maxHeartbeats 2000000 in
theorem words_no (a : Option Addr) (n cap : Nat) (w : World) (hn : n ≠ 64) :
    Calls Try.prog 4 #[.slice a n cap] w fun e w' => e = .returned (.bool true) ∧ Below w.heap.size w w' := by
  obtain ⟨i0, hi0, hz0, hz1, hz2⟩ := info_parts infoU8w
  have hq := eql_codeW 1 1
  have h1 : (((n : Nat) : Int) != 64) = true := by rw [bne_iff_ne]; omega
  go_enter Try.func4, Try.ntmps4
  go_wp2_with (first
    | (at_make
       refine wpList_make_ints _ rfl (.const (.int .i64 64)) (.const (.int .i64 64)) 22 rfl 5 i0 .u8 Try.underlying22 hi0 hz0 hz1 .i64 .i64 _ _ 64 rfl rfl (by omega) (by omega) (by rw [hz2]; omega) (by simp only [maxLen]; omega) ?_
       intro w1 hr1 hb1 hs1
       have HR1 := Lib.hid hr1
       have HB1 := Lib.hid hb1
       clear hr1 hb1 hs1))
  refine (Words_yes w.heap.size 0 64 (List.replicate 64 0) w1 (by simp) (zeros_b8 64) HR1.out.seg (by omega) HR1.out.lt).mono ?_
  rintro e w2 ⟨rfl, hr2, hb2, hs2⟩
  have HB2 := Lib.hid hb2
  clear hr2 hb2 hs2
  go_wp2_with fail
  refine (Words_no _ _ _ _ hn).mono ?_
  rintro e w' ⟨rfl, rfl⟩
  go_wp2_with fail
  go_ret
  exact ⟨rfl, HB1.out.trans (HB2.out.mono HB1.out.size)⟩

set_option maxRecDepth 100000 in
set_option maxHeartbeats 2000000 in
theorem words_yes (g off cap : Nat) (bs : List Int) (w : World) (hl : bs.length = 64) (hb8 : Bytes8 bs) (hseg : Seg .u8 w g off bs) (hcap : 64 ≤ cap) (hg : g < w.heap.size) :
    Calls Try.prog 4 #[.slice (some ⟨g, off, none⟩) 64 cap] w fun e w' => e = .returned (.bool true) ∧ Below w.heap.size w w' := by
  obtain ⟨i0, hi0, hz0, hz1, hz2⟩ := info_parts infoU8w
  have HL := Lib.hid hl
  have HB8 := Lib.hid hb8
  have HSEG := Lib.hid hseg
  clear hl hb8 hseg
  go_enter Try.func4, Try.ntmps4
  go_wp2_with (first
    | (at_make
       refine wpList_make_ints _ rfl (.const (.int .i64 64)) (.const (.int .i64 64)) 22 rfl 5 i0 .u8 Try.underlying22 hi0 hz0 hz1 .i64 .i64 _ _ 64 rfl rfl (by omega) (by omega) (by rw [hz2]; omega) (by simp only [maxLen]; omega) ?_
       intro w1 hr1 hb1 hs1
       have HR1 := Lib.hid hr1
       have HB1 := Lib.hid hb1
       clear hr1 hb1 hs1))
  refine (Words_yes w.heap.size 0 64 (List.replicate 64 0) w1 (by simp) (zeros_b8 64) HR1.out.seg (by omega) HR1.out.lt).mono ?_
  rintro e w2 ⟨rfl, hr2, hb2, hs2⟩
  have HB2 : Hid (Below w.heap.size w w2) := Lib.hid (HB1.out.trans (hb2.mono HB1.out.size))
  clear hr2 hb2 hs2
  go_wp2_with fail
  refine (Words_yes g off cap bs w2 HL.out HB8.out (HSEG.out.below HB2.out hg) hcap (Nat.lt_of_lt_of_le hg HB2.out.size)).mono ?_
  rintro e w3 ⟨rfl, hr3, hb3, hs3⟩
  have HB3 : Hid (Below w.heap.size w w3) := Lib.hid (HB2.out.trans (hb3.mono HB2.out.size))
  have HR3 := Lib.hid hr3
  clear hr3 hb3 hs3
  go_wp2_with fail
  refine (refWords_any g off cap bs w3 HL.out HB8.out (HSEG.out.below HB3.out hg) (Nat.lt_of_lt_of_le hg HB3.out.size)).mono ?_
  rintro e w4 ⟨g4, cap4, rfl, ho4, hb4⟩
  have HB4 : Hid (Below w.heap.size w w4) := Lib.hid (HB3.out.trans (hb4.mono HB3.out.size))
  have cA : ∀ k, k < 64 → w4.cell? ⟨w2.heap.size + 2, k, none⟩ = some (.int .u32 ((sched bs).getD k 0)) := fun k hk =>
    (HR3.out.below hb4 HR3.out.lt).cellD k (by rw [sched_length]; exact hk)
  have cB : ∀ k, k < 64 → w4.cell? ⟨g4, k, none⟩ = some (.int .u32 ((sched bs).getD k 0)) := fun k hk => own_cell ho4 k hk
  have CA := Lib.hid cA
  have CB := Lib.hid cB
  clear cA cB ho4 hb4
  go_wp2_with fail
  go_loopw [8] (fun i wx => ∃ k m : Nat, k ≤ 64 ∧ i = .int .i64 k ∧ wx = w4.drewN m) (fun i _ => 64 - (intOf i).toNat)
  case atStart => exact ⟨0, 0, by omega, rfl, rfl⟩
  case round =>
    obtain ⟨k, m, hk, rfl, rfl⟩ := hrel
    by_cases hlt : k < 64
    · have c1 := CA.out k hlt
      have c2 := CB.out k hlt
      generalize (sched bs).getD k 0 = x at *
      have kb : (k : Int) < 64 := by omega
      go_wp2_with fail
      go_quiet (fail)
      go_wp2_with fail
      exact ⟨⟨k + 1, m + nq, by omega, by go_num, rfl⟩, by simp [intOf]; omega⟩
    · obtain rfl : k = 64 := by omega
      go_wp2_with fail
      go_ret
      exact ⟨rfl, below_drewN HB4.out m⟩
end Go.Proofs.Ytcaggiekooncnaa
