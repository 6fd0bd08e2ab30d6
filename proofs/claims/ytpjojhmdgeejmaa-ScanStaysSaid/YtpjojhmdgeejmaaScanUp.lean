/- The head of the statements of layer 6: the document's examples. -/
import Derived.Test.YtpjojhmdgeejmaaPrSpan
import Derived.Test.YtpjojhmdgeejmaaOne
import Derived.Lib.SlBytesConst
namespace Go.Proofs.Ytpjojhmdgeejmaa
open Go.RowKit
set_option linter.unusedVariables false

theorem conv_b (W : World) (g : Nat) (hg : W.heap.size = g) : (convert 22 22 (.slice (some ⟨g, 0, none⟩) 1 1)).run Try.prog (W.alloc (.cells #[.int .u8 98] 5)) = .ok (.slice (some ⟨g, 0, none⟩) 1 1) (W.alloc (.cells #[.int .u8 98] 5 (1, 2))) := by
  subst hg
  exact Lib.run_convert_bytes_const W 22 5 #[.int .u8 98] 1 1 Try.underlying22 Try.underlying5
theorem byte_b (W : World) (g : Nat) (hg : W.heap.size = g) : InBytes (W.alloc (.cells #[.int .u8 98] 5 (1, 2))) (some ⟨g, 0, none⟩) 1 1 [98] := by
  subst hg
  exact in_one (heap_alloc_new W (.cells #[.int .u8 98] 5 (1, 2))) (by omega) (by omega)

set_option maxRecDepth 100000 in
set_option maxHeartbeats 8000000 in
theorem up6_any (w : World) : Calls Try.prog 9 #[] w (Says w (.bool true)) := by
  have hc0 : (convert 22 22 (.slice (some ⟨w.heap.size, 0, none⟩) 1 1)).run Try.prog (w.alloc (.cells #[.int .u8 98] 5)) = .ok (.slice (some ⟨w.heap.size, 0, none⟩) 1 1) (w.alloc (.cells #[.int .u8 98] 5 (1, 2))) := conv_b w _ rfl
  have hc1 : (convert 22 22 (.slice (some ⟨w.heap.size + 1, 0, none⟩) 1 1)).run Try.prog ((w.alloc (.cells #[.int .u8 98] 5 (1, 2))).alloc (.cells #[.int .u8 98] 5)) = .ok (.slice (some ⟨w.heap.size + 1, 0, none⟩) 1 1) ((w.alloc (.cells #[.int .u8 98] 5 (1, 2))).alloc (.cells #[.int .u8 98] 5 (1, 2))) := conv_b _ _ (by simp)
  have b0 := byte_b w w.heap.size rfl
  have b1 := byte_b (w.alloc (.cells #[.int .u8 98] 5 (1, 2))) (w.heap.size + 1) (by simp)
  have q2 : Below w.heap.size w ((w.alloc (.cells #[.int .u8 98] 5 (1, 2))).alloc (.cells #[.int .u8 98] 5 (1, 2))) := ((Below.refl _ _).alloc (Nat.le_refl _) _).alloc (by simp) _
  have b02 := b0.below ((Below.refl _ (w.alloc (.cells #[.int .u8 98] 5 (1, 2)))).alloc (Nat.le_refl _) (.cells #[.int .u8 98] 5 (1, 2)))
  have HB := Lib.hid (And.intro b02 (And.intro b1 q2))
  clear b0 b1 b02 q2
  go_enter Try.func9, Try.ntmps9
  go_upto_region 2 with (first
    | (go_at_call 11
       refine (scanIn_any ⟨(some ⟨w.heap.size, 0, none⟩), 1, 1, none, 0, 0, true⟩ [98] [] [98] (some ⟨w.heap.size + 1, 0, none⟩) 1 1 _ ⟨HB.out.1, none_in _⟩ HB.out.2.1).mono ?_
       rintro _ w1 ⟨rfl, hb1⟩
       have HB1 : Hid (Below w.heap.size w w1) := Lib.hid (HB.out.2.2.trans (hb1.mono HB.out.2.2.size))
       clear hb1))
  clear hc0 hc1 HB
  have hc0 : (convert 22 22 (.slice (some ⟨w1.heap.size, 0, none⟩) 1 1)).run Try.prog (w1.alloc (.cells #[.int .u8 98] 5)) = .ok (.slice (some ⟨w1.heap.size, 0, none⟩) 1 1) (w1.alloc (.cells #[.int .u8 98] 5 (1, 2))) := conv_b w1 _ rfl
  have hc1 : (convert 22 22 (.slice (some ⟨w1.heap.size + 1, 0, none⟩) 1 1)).run Try.prog ((w1.alloc (.cells #[.int .u8 98] 5 (1, 2))).alloc (.cells #[.int .u8 98] 5)) = .ok (.slice (some ⟨w1.heap.size + 1, 0, none⟩) 1 1) ((w1.alloc (.cells #[.int .u8 98] 5 (1, 2))).alloc (.cells #[.int .u8 98] 5 (1, 2))) := conv_b _ _ (by simp)
  have hc2 : (convert 22 22 (.slice (some ⟨w1.heap.size + 2, 0, none⟩) 1 1)).run Try.prog (((w1.alloc (.cells #[.int .u8 98] 5 (1, 2))).alloc (.cells #[.int .u8 98] 5 (1, 2))).alloc (.cells #[.int .u8 98] 5)) = .ok (.slice (some ⟨w1.heap.size + 2, 0, none⟩) 1 1) (((w1.alloc (.cells #[.int .u8 98] 5 (1, 2))).alloc (.cells #[.int .u8 98] 5 (1, 2))).alloc (.cells #[.int .u8 98] 5 (1, 2))) := conv_b _ _ (by simp)
  have b0 := byte_b w1 w1.heap.size rfl
  have b1 := byte_b (w1.alloc (.cells #[.int .u8 98] 5 (1, 2))) (w1.heap.size + 1) (by simp)
  have b2 := byte_b ((w1.alloc (.cells #[.int .u8 98] 5 (1, 2))).alloc (.cells #[.int .u8 98] 5 (1, 2))) (w1.heap.size + 2) (by simp)
  have b1' := b1.below ((Below.refl _ ((w1.alloc (.cells #[.int .u8 98] 5 (1, 2))).alloc (.cells #[.int .u8 98] 5 (1, 2)))).alloc (Nat.le_refl _) (.cells #[.int .u8 98] 5 (1, 2)))
  have b0' := (b0.below ((Below.refl _ (w1.alloc (.cells #[.int .u8 98] 5 (1, 2)))).alloc (Nat.le_refl _) (.cells #[.int .u8 98] 5 (1, 2)))).below ((Below.refl _ ((w1.alloc (.cells #[.int .u8 98] 5 (1, 2))).alloc (.cells #[.int .u8 98] 5 (1, 2)))).alloc (Nat.le_refl _) (.cells #[.int .u8 98] 5 (1, 2)))
  have q3 : Below w1.heap.size w1 (((w1.alloc (.cells #[.int .u8 98] 5 (1, 2))).alloc (.cells #[.int .u8 98] 5 (1, 2))).alloc (.cells #[.int .u8 98] 5 (1, 2))) := (((Below.refl _ _).alloc (Nat.le_refl _) _).alloc (by simp) _).alloc (by simp; omega) _
  have HB := Lib.hid (And.intro b0' (And.intro b1' (And.intro b2 q3)))
  clear b0 b1 b2 b0' b1' q3
  go_wp2_with (first
    | (go_at_call 11
       refine (scanIn_any ⟨(some ⟨w1.heap.size, 0, none⟩), 1, 1, (some ⟨w1.heap.size + 1, 0, none⟩), 1, 1, false⟩ [98] [98] [98] (some ⟨w1.heap.size + 2, 0, none⟩) 1 1 _ ⟨HB.out.1, HB.out.2.1⟩ HB.out.2.2.1).mono ?_
       rintro _ w2 ⟨rfl, hb2⟩
       have HB2 : Hid (Below w.heap.size w w2) := Lib.hid (HB1.out.trans ((HB.out.2.2.2.trans (hb2.mono HB.out.2.2.2.size)).mono HB1.out.size))
       clear hb2))
  go_ret
  exact ⟨rfl, HB2.out⟩
end Go.Proofs.Ytpjojhmdgeejmaa
