/- The contract of the document's times. -/
import Derived.Test.YtdmfjnohkpiaiaaDoorMadeMath
import Derived.Test.YtdmfjnohkpiaiaaDoorLib
import Derived.Test.YtdmfjnohkpiaiaaDoorProg
import Derived.WalkLawsBesides
import Derived.WalkSpells
import Derived.Outline
import Derived.Lib.Hide
import Derived.LoopTactic
import Derived.IntWalk
import Derived.RegionTactic
import Derived.BigRegion
namespace Go.Proofs.YtdmfjnohkpiaiaaDoor
open Go.RowKit
set_option linter.unusedVariables false

def U64s (l : List Int) : Prop := ∀ z ∈ l, 0 ≤ z ∧ z ≤ 18446744073709551615
theorem u64_at {l : List Int} (h : U64s l) (i : Nat) : 0 ≤ l.getD i 0 ∧ l.getD i 0 ≤ 18446744073709551615 := by
  by_cases hi : i < l.length
  · have := h l[i] (List.getElem_mem hi)
    simpa [List.getD, hi] using this
  · simp [List.getD, List.getElem?_eq_none (by omega : l.length ≤ i)]
theorem u64_set {l : List Int} (h : U64s l) (i : Nat) (z : Int) (h0 : 0 ≤ z) (h1 : z ≤ 18446744073709551615) : U64s (l.set i z) := by
  intro y hy
  rcases List.mem_or_eq_of_mem_set hy with hm | rfl
  · exact h y hm
  · exact ⟨h0, h1⟩
theorem u64_rep (n : Nat) : U64s (List.replicate n 0) := by
  intro z hz
  rw [List.mem_replicate] at hz
  omega
theorem mulCol_length (out : List Int) (x : Int) (b : List Int) (i : Nat) : ∀ k, (mulCol out x b i k).length = out.length
  | 0 => rfl
  | k + 1 => by simp [mulCol, mulCol_length out x b i k]
theorem mulRow_length (a b : List Int) : ∀ i, (mulRow a b i).length = a.length + b.length + 1
  | 0 => by simp [mulRow]
  | i + 1 => by rw [mulRow, mulCol_length, mulRow_length a b i]
theorem carry_length (o : List Int) : ∀ i, (carry o i).length = o.length
  | 0 => rfl
  | i + 1 => by simp [carry, carry_length o i]
theorem mulCol_u {out : List Int} (h : U64s out) (x : Int) (b : List Int) (i : Nat) : ∀ k, U64s (mulCol out x b i k)
  | 0 => h
  | k + 1 => u64_set (mulCol_u h x b i k) _ _ (by omega) (by omega)
theorem mulRow_u (a b : List Int) : ∀ i, U64s (mulRow a b i)
  | 0 => u64_rep _
  | i + 1 => mulCol_u (mulRow_u a b i) _ _ _ _
theorem carry_u {o : List Int} (h : U64s o) : ∀ i, U64s (carry o i)
  | 0 => h
  | i + 1 => u64_set (u64_set (carry_u h i) _ _ (by omega) (by omega)) _ _ (by omega) (by omega)
theorem timesL_length (a b : List Int) : (timesL a b).length = a.length + b.length + 1 := by rw [timesL, carry_length, mulRow_length]
theorem timesL_u (a b : List Int) : U64s (timesL a b) := carry_u (mulRow_u a b _) _

theorem wrap_mul_add (x t : Int) : IntKind.u64.wrap (x + IntKind.u64.wrap t) = (x + t) % 18446744073709551616 := by
  simp only [IntKind.wrap_u64]
  omega
theorem wrap_add64 (x : Int) : IntKind.u64.wrap x = x % 18446744073709551616 := IntKind.wrap_u64 x
theorem infoU64 : (Tryd.prog.info? 45).map (fun i => (i.zero, i.size, i.bytes)) = some (some (.int .u64 0), 1, 8) := by kernel_rfl

def TimesPost (w : World) (a b : List Int) (e : Ending) (w' : World) : Prop :=
  e = .returned (.slice (some ⟨w.heap.size, 0, none⟩) (a.length + b.length + 1) (a.length + b.length + 1)) ∧ Row .u64 w' 45 w.heap.size (timesL a b) ∧ Below w.heap.size w w' ∧ w'.heap.size = w.heap.size + 1

set_option maxRecDepth 100000 in
set_option maxHeartbeats 4000000 in
theorem times_any (ga gb na nb ca cb : Nat) (a b : List Int) (w : World) (hna : a.length = na) (hnb : b.length = nb) (ha1 : na ≤ 100) (hb1 : nb ≤ 100) (hua : U64s a) (hub : U64s b) (hsa : Seg .u64 w ga 0 a) (hsb : Seg .u64 w gb 0 b) (hga : ga < w.heap.size) (hgb : gb < w.heap.size) :
    Calls Tryd.prog 30 #[.slice (some ⟨ga, 0, none⟩) na ca, .slice (some ⟨gb, 0, none⟩) nb cb] w (TimesPost w a b) := by
  obtain ⟨i0, hi0, hz0, hz1, hz2⟩ := info_parts infoU64
  have HNA := Lib.hid hna
  have HNB := Lib.hid hnb
  have HUA := Lib.hid hua
  have HUB := Lib.hid hub
  have HSA := Lib.hid hsa
  have HSB := Lib.hid hsb
  clear hna hnb hua hub hsa hsb
  go_enter Tryd.func30, Tryd.ntmps30
  go_wp2_with (first
    | (at_make
       refine wpList_make_ints _ rfl (.tmp 14) (.tmp 14) 44 rfl 45 i0 .u64 Tryd.underlying44 hi0 hz0 hz1 .i64 .i64 _ _ (na + nb + 1) rfl rfl (by push_cast; omega) (by push_cast; omega) (by rw [hz2]; omega) (by simp only [maxLen]; omega) ?_
       intro w1 hr1 hb1 hs1
       have HR1 := Lib.hid hr1
       have HB1 := Lib.hid hb1
       have HS1 := Lib.hid hs1
       clear hr1 hb1 hs1))
  go_loopw [6] (fun i wx => ∃ k : Nat, k ≤ na ∧ i = .int .i64 k ∧ Row .u64 wx 45 w.heap.size (mulRow a b k) ∧ Below w.heap.size w wx ∧ wx.heap.size = w.heap.size + 1) (fun i _ => na - (intOf i).toNat)
  case atStart => exact ⟨0, by omega, rfl, by rw [mulRow, HNA.out, HNB.out]; exact HR1.out, HB1.out, HS1.out⟩
  case round =>
    obtain ⟨i, hi, rfl, hr, hb, hs⟩ := hrel
    have HR := Lib.hid hr
    have HB := Lib.hid hb
    have HS := Lib.hid hs
    clear hr hb hs HR1 HB1 HS1
    by_cases hlt : i < na
    · have hai : ((i : Nat) : Int) < (na : Int) := by omega
      go_wp2_with fail
      go_loopw [7] (fun k wx => ∃ q : Nat, q ≤ nb ∧ k = .int .i64 q ∧ Row .u64 wx 45 w.heap.size (mulCol (mulRow a b i) (a.getD i 0) b i q) ∧ Below w.heap.size w wx ∧ wx.heap.size = w.heap.size + 1) (fun k _ => nb - (intOf k).toNat)
      case atStart => exact ⟨0, by omega, rfl, HR.out, HB.out, HS.out⟩
      case round =>
        obtain ⟨q, hq, rfl, hr, hb, hs⟩ := hrel
        clear HR HB HS
        have HR := Lib.hid hr
        have HB := Lib.hid hb
        have HS := Lib.hid hs
        clear hr hb hs
        by_cases hlt2 : q < nb
        · have hml : (mulCol (mulRow a b i) (a.getD i 0) b i q).length = na + nb + 1 := by rw [mulCol_length, mulRow_length, HNA.out, HNB.out]
          have c1 := HR.out.cellD (i + q) (by rw [hml]; omega)
          have f1 := HR.out.frozen (i + q)
          have c2 := (HSA.out.below HB.out hga).cellD i (by rw [HNA.out]; exact hlt)
          have c3 := (HSB.out.below HB.out hgb).cellD q (by rw [HNB.out]; exact hlt2)
          rw [Nat.zero_add] at c2 c3
          have u1 := u64_at (mulCol_u (mulRow_u a b i) (a.getD i 0) b i q) (i + q)
          have u2 := u64_at HUA.out i
          have u3 := u64_at HUB.out q
          have hst : Row .u64 (wr.setCell ⟨w.heap.size, i + q, none⟩ (.int .u64 (((mulCol (mulRow a b i) (a.getD i 0) b i q).getD (i + q) 0 + a.getD i 0 * b.getD q 0) % 18446744073709551616))) 45 w.heap.size (mulCol (mulRow a b i) (a.getD i 0) b i (q + 1)) := HR.out.set (i + q) _
          generalize (mulCol (mulRow a b i) (a.getD i 0) b i q).getD (i + q) 0 = x at *
          generalize b.getD q 0 = z at *
          generalize hya : a.getD i 0 = y at *
          have HST := Lib.hid hst
          have k1 : IntKind.i64.wrap ((i : Int) + (q : Int)) = (i : Int) + (q : Int) := IntWalk.i64_in _ (by omega)
          have k2 : (0 : Int) ≤ (i : Int) + (q : Int) := by omega
          have k3 : (i : Int) + (q : Int) < ((na + nb + 1 : Nat) : Int) := by omega
          have k4 : ((i : Int) + (q : Int)).toNat = i + q := by omega
          have k5 : (q : Int) < (nb : Int) := by omega
          have k6 : (i : Int) + (q : Int) < (na : Int) + (nb : Int) + 1 := by omega
          have HYA := Lib.hid hya
          clear hst hml hya
          go_wp2_with fail
          go_region
          clear k1 k2 k3 k4 k6 c1 c2 c3 f1
          go_wp2_with fail
          go_roundw
          case rel =>
            refine ⟨q + 1, by omega, by go_num, ?_, (HB.out.setCell (Nat.le_refl _) _).drew, by simpa [World.setCell] using HS.out⟩
            have h := HST.out.drew
            rw [wrap_mul_add]
            exact h
          case measure => simp [intOf]; omega
        · obtain rfl : q = nb := by omega
          have k5 : ¬ (q : Int) < (q : Int) := by omega
          have hnx : mulCol (mulRow a b i) (a.getD i 0) b i q = mulRow a b (i + 1) := by rw [mulRow, HNB.out]
          have hr := HR.out
          rw [hnx] at hr
          have HR' := Lib.hid hr
          clear hr hnx
          go_wp2_with fail
          go_roundw
          case rel => exact ⟨i + 1, by omega, by go_num, HR'.out, HB.out, HS.out⟩
          case measure => simp [intOf]; omega
    · obtain rfl : i = na := by omega
      have hr := HR.out
      have HR' : Hid (Row .u64 wr 45 w.heap.size (carry (mulRow a b i) 0)) := Lib.hid hr
      clear hr
      go_wp2_with fail
      go_loopw [8] (fun k wx => ∃ q : Nat, q ≤ i + nb ∧ k = .int .i64 q ∧ Row .u64 wx 45 w.heap.size (carry (mulRow a b i) q) ∧ Below w.heap.size w wx ∧ wx.heap.size = w.heap.size + 1) (fun k _ => i + nb - (intOf k).toNat)
      case atStart => exact ⟨0, by omega, rfl, HR'.out, HB.out, HS.out⟩
      case round =>
        obtain ⟨q, hq, rfl, hr, hb, hs⟩ := hrel
        clear HR HB HS HR'
        have HR := Lib.hid hr
        have HB := Lib.hid hb
        have HS := Lib.hid hs
        clear hr hb hs
        by_cases hlt2 : q < i + nb
        · have hml : (carry (mulRow a b i) q).length = i + nb + 1 := by rw [carry_length, mulRow_length, HNA.out, HNB.out]
          have c1 := HR.out.cellD (q + 1) (by rw [hml]; omega)
          have c2 := HR.out.cellD q (by rw [hml]; omega)
          have f1 := HR.out.frozen (q + 1)
          have f2 := HR.out.frozen q
          have u1 := u64_at (carry_u (mulRow_u a b i) q) (q + 1)
          have u2 := u64_at (carry_u (mulRow_u a b i) q) q
          have hst : Row .u64 ((wr.setCell ⟨w.heap.size, q + 1, none⟩ (.int .u64 (((carry (mulRow a b i) q).getD (q + 1) 0 + (carry (mulRow a b i) q).getD q 0 / 65536) % 18446744073709551616))).setCell ⟨w.heap.size, q, none⟩ (.int .u64 ((carry (mulRow a b i) q).getD q 0 % 65536))) 45 w.heap.size (carry (mulRow a b i) (q + 1)) := (HR.out.set (q + 1) _).set q _
          generalize (carry (mulRow a b i) q).getD (q + 1) 0 = x at *
          generalize (carry (mulRow a b i) q).getD q 0 = y at *
          have HST := Lib.hid hst
          have k1 : IntKind.i64.wrap ((q : Int) + 1) = (q : Int) + 1 := IntWalk.i64_in _ (by omega)
          have k2 : (0 : Int) ≤ (q : Int) + 1 := by omega
          have k3 : (q : Int) + 1 < ((i + nb + 1 : Nat) : Int) := by omega
          have k4 : ((q : Int) + 1).toNat = q + 1 := by omega
          have k5 : (q : Int) + 1 < (i : Int) + (nb : Int) + 1 := by omega
          have k6 : (q : Int) < (i : Int) + (nb : Int) + 1 := by omega
          have k7 : (q : Int) < (i : Int) + (nb : Int) := by omega
          clear hst hml
          go_wp2_with fail
          go_region
          clear k1 k2 k3 k4 k5 c1 f1
          go_wp2_with fail
          go_roundw
          case rel =>
            refine ⟨q + 1, by omega, by go_num, ?_, ?_, ?_⟩
            · have h := HST.out
              rw [wrap_add64]
              exact h
            · exact ((HB.out.setCell (Nat.le_refl _) _).drew).setCell (Nat.le_refl _) _
            · simpa [World.setCell] using HS.out
          case measure => simp [intOf]; omega
        · obtain rfl : q = i + nb := by omega
          have k7 : ¬ ((i + nb : Nat) : Int) + 1 < (i : Int) + (nb : Int) + 1 := by omega
          have hfin : carry (mulRow a b i) (i + nb) = timesL a b := by rw [timesL, HNA.out, HNB.out]
          have hr := HR.out
          rw [hfin] at hr
          have HR2 := Lib.hid hr
          clear hr hfin
          go_wp2_with fail
          go_ret
          exact ⟨by rw [HNA.out, HNB.out]; rfl, HR2.out, HB.out, HS.out⟩
end Go.Proofs.YtdmfjnohkpiaiaaDoor
