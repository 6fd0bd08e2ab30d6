/- The first 64 primes, as the document seeks them. No program is named here. The roots of the primes 0 to 15, reckoned: they are the constants. No program is named here. The roots of the primes 16 to 31, reckoned: they are the constants. No program is named here. The roots of the primes 32 to 47, reckoned: they are the constants. No program is named here. The roots of the primes 48 to 63, reckoned: they are the constants. No program is named here. All the roots. No program is named here. The contract of the document's times. The contract of the document's below. The contract of the document's root. The contract of the document's Made: the tables. -/
import Derived.Test.YtcplfpnaepdddaaDoorShaM
import Derived.Test.YtcplfpnaepdddaaDoorLib
import Derived.Test.YtcplfpnaepdddaaDoorProg
import Derived.WalkLawsBesides
import Derived.WalkSpells
import Derived.Outline
import Derived.Lib.Hide
import Derived.LoopTactic
import Derived.IntWalk
import Derived.RegionTactic
import Derived.BigRegion
import Derived.Deep.QuietTactic
import Derived.BigQuiet
import Derived.OwnWalk
import Derived.Maps.AppendAt
import Derived.Deep.AppendLies
import Derived.Deep.RegionLaw
/- The first 64 primes, as the document seeks them. No program is named here. -/
namespace Go.Proofs.YtcplfpnaepdddaaDoor
set_option linter.unusedVariables false
set_option maxRecDepth 100000

def allNe (k : Int) (l : List Int) : Nat → Bool
  | 0 => true
  | i + 1 => allNe k l i && (k % l.getD i 0 != 0)
/-- What was found when the numbers up to n + 1 were tried. -/
def sieve : Nat → List Int
  | 0 => []
  | n + 1 => match sieve n with
    | l => if allNe (n + 2 : Nat) l l.length then l ++ [((n + 2 : Nat) : Int)] else l
def primes : List Int := [2, 3, 5, 7, 11, 13, 17, 19, 23, 29, 31, 37, 41, 43, 47, 53, 59, 61, 67, 71, 73, 79, 83, 89, 97, 101, 103, 107, 109, 113, 127, 131, 137, 139, 149, 151, 157, 163, 167, 173, 179, 181, 191, 193, 197, 199, 211, 223, 227, 229, 233, 239, 241, 251, 257, 263, 269, 271, 277, 281, 283, 293, 307, 311]
theorem sieve_all : sieve 310 = primes := by decide +kernel
theorem sieve_short : ∀ n, n < 310 → (sieve n).length < 64 := by
  have h : (List.range 310).all (fun n => decide ((sieve n).length < 64)) = true := by decide +kernel
  intro n hn
  have := List.all_eq_true.1 h n (List.mem_range.2 hn)
  exact of_decide_eq_true this
theorem sieve_ok : ∀ n, n ≤ 310 → ∀ z ∈ sieve n, 2 ≤ z ∧ z ≤ 1000 := by
  have h : (List.range 311).all (fun n => (sieve n).all (fun z => decide (2 ≤ z ∧ z ≤ 1000))) = true := by decide +kernel
  intro n hn z hz
  have h1 := List.all_eq_true.1 h n (List.mem_range.2 (by omega))
  have h2 := List.all_eq_true.1 h1 z hz
  exact of_decide_eq_true h2
theorem sieve_next (n : Nat) : sieve (n + 1) = if allNe (n + 2 : Nat) (sieve n) (sieve n).length then sieve n ++ [((n + 2 : Nat) : Int)] else sieve n := rfl
end Go.Proofs.YtcplfpnaepdddaaDoor

/- The roots of the primes 0 to 15, reckoned: they are the constants. No program is named here. -/
namespace Go.Proofs.YtcplfpnaepdddaaDoor
set_option maxRecDepth 100000
theorem kroot0 : rootL 2 true = kTab.getD 0 0 := by decide +kernel
theorem kroot1 : rootL 3 true = kTab.getD 1 0 := by decide +kernel
theorem kroot2 : rootL 5 true = kTab.getD 2 0 := by decide +kernel
theorem kroot3 : rootL 7 true = kTab.getD 3 0 := by decide +kernel
theorem kroot4 : rootL 11 true = kTab.getD 4 0 := by decide +kernel
theorem kroot5 : rootL 13 true = kTab.getD 5 0 := by decide +kernel
theorem kroot6 : rootL 17 true = kTab.getD 6 0 := by decide +kernel
theorem kroot7 : rootL 19 true = kTab.getD 7 0 := by decide +kernel
theorem kroot8 : rootL 23 true = kTab.getD 8 0 := by decide +kernel
theorem kroot9 : rootL 29 true = kTab.getD 9 0 := by decide +kernel
theorem kroot10 : rootL 31 true = kTab.getD 10 0 := by decide +kernel
theorem kroot11 : rootL 37 true = kTab.getD 11 0 := by decide +kernel
theorem kroot12 : rootL 41 true = kTab.getD 12 0 := by decide +kernel
theorem kroot13 : rootL 43 true = kTab.getD 13 0 := by decide +kernel
theorem kroot14 : rootL 47 true = kTab.getD 14 0 := by decide +kernel
theorem kroot15 : rootL 53 true = kTab.getD 15 0 := by decide +kernel
theorem hroot0 : rootL 2 false = hTab.getD 0 0 := by decide +kernel
theorem hroot1 : rootL 3 false = hTab.getD 1 0 := by decide +kernel
theorem hroot2 : rootL 5 false = hTab.getD 2 0 := by decide +kernel
theorem hroot3 : rootL 7 false = hTab.getD 3 0 := by decide +kernel
theorem hroot4 : rootL 11 false = hTab.getD 4 0 := by decide +kernel
theorem hroot5 : rootL 13 false = hTab.getD 5 0 := by decide +kernel
theorem hroot6 : rootL 17 false = hTab.getD 6 0 := by decide +kernel
theorem hroot7 : rootL 19 false = hTab.getD 7 0 := by decide +kernel
end Go.Proofs.YtcplfpnaepdddaaDoor

/- The roots of the primes 16 to 31, reckoned: they are the constants. No program is named here. -/
namespace Go.Proofs.YtcplfpnaepdddaaDoor
set_option maxRecDepth 100000
theorem kroot16 : rootL 59 true = kTab.getD 16 0 := by decide +kernel
theorem kroot17 : rootL 61 true = kTab.getD 17 0 := by decide +kernel
theorem kroot18 : rootL 67 true = kTab.getD 18 0 := by decide +kernel
theorem kroot19 : rootL 71 true = kTab.getD 19 0 := by decide +kernel
theorem kroot20 : rootL 73 true = kTab.getD 20 0 := by decide +kernel
theorem kroot21 : rootL 79 true = kTab.getD 21 0 := by decide +kernel
theorem kroot22 : rootL 83 true = kTab.getD 22 0 := by decide +kernel
theorem kroot23 : rootL 89 true = kTab.getD 23 0 := by decide +kernel
theorem kroot24 : rootL 97 true = kTab.getD 24 0 := by decide +kernel
theorem kroot25 : rootL 101 true = kTab.getD 25 0 := by decide +kernel
theorem kroot26 : rootL 103 true = kTab.getD 26 0 := by decide +kernel
theorem kroot27 : rootL 107 true = kTab.getD 27 0 := by decide +kernel
theorem kroot28 : rootL 109 true = kTab.getD 28 0 := by decide +kernel
theorem kroot29 : rootL 113 true = kTab.getD 29 0 := by decide +kernel
theorem kroot30 : rootL 127 true = kTab.getD 30 0 := by decide +kernel
theorem kroot31 : rootL 131 true = kTab.getD 31 0 := by decide +kernel
end Go.Proofs.YtcplfpnaepdddaaDoor

/- The roots of the primes 32 to 47, reckoned: they are the constants. No program is named here. -/
namespace Go.Proofs.YtcplfpnaepdddaaDoor
set_option maxRecDepth 100000
theorem kroot32 : rootL 137 true = kTab.getD 32 0 := by decide +kernel
theorem kroot33 : rootL 139 true = kTab.getD 33 0 := by decide +kernel
theorem kroot34 : rootL 149 true = kTab.getD 34 0 := by decide +kernel
theorem kroot35 : rootL 151 true = kTab.getD 35 0 := by decide +kernel
theorem kroot36 : rootL 157 true = kTab.getD 36 0 := by decide +kernel
theorem kroot37 : rootL 163 true = kTab.getD 37 0 := by decide +kernel
theorem kroot38 : rootL 167 true = kTab.getD 38 0 := by decide +kernel
theorem kroot39 : rootL 173 true = kTab.getD 39 0 := by decide +kernel
theorem kroot40 : rootL 179 true = kTab.getD 40 0 := by decide +kernel
theorem kroot41 : rootL 181 true = kTab.getD 41 0 := by decide +kernel
theorem kroot42 : rootL 191 true = kTab.getD 42 0 := by decide +kernel
theorem kroot43 : rootL 193 true = kTab.getD 43 0 := by decide +kernel
theorem kroot44 : rootL 197 true = kTab.getD 44 0 := by decide +kernel
theorem kroot45 : rootL 199 true = kTab.getD 45 0 := by decide +kernel
theorem kroot46 : rootL 211 true = kTab.getD 46 0 := by decide +kernel
theorem kroot47 : rootL 223 true = kTab.getD 47 0 := by decide +kernel
end Go.Proofs.YtcplfpnaepdddaaDoor

/- The roots of the primes 48 to 63, reckoned: they are the constants. No program is named here. -/
namespace Go.Proofs.YtcplfpnaepdddaaDoor
set_option maxRecDepth 100000
theorem kroot48 : rootL 227 true = kTab.getD 48 0 := by decide +kernel
theorem kroot49 : rootL 229 true = kTab.getD 49 0 := by decide +kernel
theorem kroot50 : rootL 233 true = kTab.getD 50 0 := by decide +kernel
theorem kroot51 : rootL 239 true = kTab.getD 51 0 := by decide +kernel
theorem kroot52 : rootL 241 true = kTab.getD 52 0 := by decide +kernel
theorem kroot53 : rootL 251 true = kTab.getD 53 0 := by decide +kernel
theorem kroot54 : rootL 257 true = kTab.getD 54 0 := by decide +kernel
theorem kroot55 : rootL 263 true = kTab.getD 55 0 := by decide +kernel
theorem kroot56 : rootL 269 true = kTab.getD 56 0 := by decide +kernel
theorem kroot57 : rootL 271 true = kTab.getD 57 0 := by decide +kernel
theorem kroot58 : rootL 277 true = kTab.getD 58 0 := by decide +kernel
theorem kroot59 : rootL 281 true = kTab.getD 59 0 := by decide +kernel
theorem kroot60 : rootL 283 true = kTab.getD 60 0 := by decide +kernel
theorem kroot61 : rootL 293 true = kTab.getD 61 0 := by decide +kernel
theorem kroot62 : rootL 307 true = kTab.getD 62 0 := by decide +kernel
theorem kroot63 : rootL 311 true = kTab.getD 63 0 := by decide +kernel
end Go.Proofs.YtcplfpnaepdddaaDoor

/- All the roots. No program is named here. -/
namespace Go.Proofs.YtcplfpnaepdddaaDoor
set_option maxRecDepth 100000
theorem kroots (i : Nat) (h : i < 64) : rootL (primes.getD i 0) true = kTab.getD i 0 := by
  match i, h with
  | 0, _ => exact kroot0
  | 1, _ => exact kroot1
  | 2, _ => exact kroot2
  | 3, _ => exact kroot3
  | 4, _ => exact kroot4
  | 5, _ => exact kroot5
  | 6, _ => exact kroot6
  | 7, _ => exact kroot7
  | 8, _ => exact kroot8
  | 9, _ => exact kroot9
  | 10, _ => exact kroot10
  | 11, _ => exact kroot11
  | 12, _ => exact kroot12
  | 13, _ => exact kroot13
  | 14, _ => exact kroot14
  | 15, _ => exact kroot15
  | 16, _ => exact kroot16
  | 17, _ => exact kroot17
  | 18, _ => exact kroot18
  | 19, _ => exact kroot19
  | 20, _ => exact kroot20
  | 21, _ => exact kroot21
  | 22, _ => exact kroot22
  | 23, _ => exact kroot23
  | 24, _ => exact kroot24
  | 25, _ => exact kroot25
  | 26, _ => exact kroot26
  | 27, _ => exact kroot27
  | 28, _ => exact kroot28
  | 29, _ => exact kroot29
  | 30, _ => exact kroot30
  | 31, _ => exact kroot31
  | 32, _ => exact kroot32
  | 33, _ => exact kroot33
  | 34, _ => exact kroot34
  | 35, _ => exact kroot35
  | 36, _ => exact kroot36
  | 37, _ => exact kroot37
  | 38, _ => exact kroot38
  | 39, _ => exact kroot39
  | 40, _ => exact kroot40
  | 41, _ => exact kroot41
  | 42, _ => exact kroot42
  | 43, _ => exact kroot43
  | 44, _ => exact kroot44
  | 45, _ => exact kroot45
  | 46, _ => exact kroot46
  | 47, _ => exact kroot47
  | 48, _ => exact kroot48
  | 49, _ => exact kroot49
  | 50, _ => exact kroot50
  | 51, _ => exact kroot51
  | 52, _ => exact kroot52
  | 53, _ => exact kroot53
  | 54, _ => exact kroot54
  | 55, _ => exact kroot55
  | 56, _ => exact kroot56
  | 57, _ => exact kroot57
  | 58, _ => exact kroot58
  | 59, _ => exact kroot59
  | 60, _ => exact kroot60
  | 61, _ => exact kroot61
  | 62, _ => exact kroot62
  | 63, _ => exact kroot63
  | n + 64, h => omega
theorem hroots (i : Nat) (h : i < 8) : rootL (primes.getD i 0) false = hTab.getD i 0 := by
  match i, h with
  | 0, _ => exact hroot0
  | 1, _ => exact hroot1
  | 2, _ => exact hroot2
  | 3, _ => exact hroot3
  | 4, _ => exact hroot4
  | 5, _ => exact hroot5
  | 6, _ => exact hroot6
  | 7, _ => exact hroot7
  | n + 8, h => omega
end Go.Proofs.YtcplfpnaepdddaaDoor

/- The contract of the document's times. -/
namespace Go.Proofs.YtcplfpnaepdddaaDoor
open Go.RowKit
set_option linter.unusedVariables false

def U64s (l : List Int) : Prop := ∀ z ∈ l, 0 ≤ z ∧ z ≤ 18446744073709551615
theorem u64_at {l : List Int} (h : U64s l) (i : Nat) : 0 ≤ l.getD i 0 ∧ l.getD i 0 ≤ 18446744073709551615 := by
  by_cases hi : i < l.length
  · have := h l[i] (List.getElem_mem hi)
    simpa [List.getD, hi] using this
  · simp [List.getD, List.getElem?_eq_none (by omega : l.length ≤ i)]
theorem u64_set {l : List Int} (h : U64s l) (i : Nat) (z : Int) (h0 : 0 ≤ z) (h1 : z ≤ 18446744073709551615) : U64s (l.set i z) := by
  intro y hy
  rcases List.mem_or_eq_of_mem_set hy with hm | rfl
  · exact h y hm
  · exact ⟨h0, h1⟩
theorem u64_rep (n : Nat) : U64s (List.replicate n 0) := by
  intro z hz
  rw [List.mem_replicate] at hz
  omega
theorem mulCol_length (out : List Int) (x : Int) (b : List Int) (i : Nat) : ∀ k, (mulCol out x b i k).length = out.length
  | 0 => rfl
  | k + 1 => by simp [mulCol, mulCol_length out x b i k]
theorem mulRow_length (a b : List Int) : ∀ i, (mulRow a b i).length = a.length + b.length + 1
  | 0 => by simp [mulRow]
  | i + 1 => by rw [mulRow, mulCol_length, mulRow_length a b i]
theorem carry_length (o : List Int) : ∀ i, (carry o i).length = o.length
  | 0 => rfl
  | i + 1 => by simp [carry, carry_length o i]
theorem mulCol_u {out : List Int} (h : U64s out) (x : Int) (b : List Int) (i : Nat) : ∀ k, U64s (mulCol out x b i k)
  | 0 => h
  | k + 1 => u64_set (mulCol_u h x b i k) _ _ (by omega) (by omega)
theorem mulRow_u (a b : List Int) : ∀ i, U64s (mulRow a b i)
  | 0 => u64_rep _
  | i + 1 => mulCol_u (mulRow_u a b i) _ _ _ _
theorem carry_u {o : List Int} (h : U64s o) : ∀ i, U64s (carry o i)
  | 0 => h
  | i + 1 => u64_set (u64_set (carry_u h i) _ _ (by omega) (by omega)) _ _ (by omega) (by omega)
theorem timesL_length (a b : List Int) : (timesL a b).length = a.length + b.length + 1 := by rw [timesL, carry_length, mulRow_length]
theorem timesL_u (a b : List Int) : U64s (timesL a b) := carry_u (mulRow_u a b _) _

theorem wrap_mul_add (x t : Int) : IntKind.u64.wrap (x + IntKind.u64.wrap t) = (x + t) % 18446744073709551616 := by
  simp only [IntKind.wrap_u64]
  omega
theorem wrap_add64 (x : Int) : IntKind.u64.wrap x = x % 18446744073709551616 := IntKind.wrap_u64 x
theorem infoU64 : (Tryd.prog.info? 63).map (fun i => (i.zero, i.size, i.bytes)) = some (some (.int .u64 0), 1, 8) := by kernel_rfl

def TimesPost (w : World) (a b : List Int) (e : Ending) (w' : World) : Prop :=
  e = .returned (.slice (some ⟨w.heap.size, 0, none⟩) (a.length + b.length + 1) (a.length + b.length + 1)) ∧ Row .u64 w' 63 w.heap.size (timesL a b) ∧ Below w.heap.size w w' ∧ w'.heap.size = w.heap.size + 1

set_option maxRecDepth 100000 in
set_option maxHeartbeats 4000000 in
theorem times_any (ga gb na nb ca cb : Nat) (a b : List Int) (w : World) (hna : a.length = na) (hnb : b.length = nb) (ha1 : na ≤ 100) (hb1 : nb ≤ 100) (hua : U64s a) (hub : U64s b) (hsa : Seg .u64 w ga 0 a) (hsb : Seg .u64 w gb 0 b) (hga : ga < w.heap.size) (hgb : gb < w.heap.size) :
    Calls Tryd.prog 64 #[.slice (some ⟨ga, 0, none⟩) na ca, .slice (some ⟨gb, 0, none⟩) nb cb] w (TimesPost w a b) := by
  obtain ⟨i0, hi0, hz0, hz1, hz2⟩ := info_parts infoU64
  have HNA := Lib.hid hna
  have HNB := Lib.hid hnb
  have HUA := Lib.hid hua
  have HUB := Lib.hid hub
  have HSA := Lib.hid hsa
  have HSB := Lib.hid hsb
  clear hna hnb hua hub hsa hsb
  go_enter Tryd.func64, Tryd.ntmps64
  go_wp2_with (first
    | (at_make
       refine wpList_make_ints _ rfl (.tmp 14) (.tmp 14) 62 rfl 63 i0 .u64 Tryd.underlying62 hi0 hz0 hz1 .i64 .i64 _ _ (na + nb + 1) rfl rfl (by push_cast; omega) (by push_cast; omega) (by rw [hz2]; omega) (by simp only [maxLen]; omega) ?_
       intro w1 hr1 hb1 hs1
       have HR1 := Lib.hid hr1
       have HB1 := Lib.hid hb1
       have HS1 := Lib.hid hs1
       clear hr1 hb1 hs1))
  go_loopw [6] (fun i wx => ∃ k : Nat, k ≤ na ∧ i = .int .i64 k ∧ Row .u64 wx 63 w.heap.size (mulRow a b k) ∧ Below w.heap.size w wx ∧ wx.heap.size = w.heap.size + 1) (fun i _ => na - (intOf i).toNat)
  case atStart => exact ⟨0, by omega, rfl, by rw [mulRow, HNA.out, HNB.out]; exact HR1.out, HB1.out, HS1.out⟩
  case round =>
    obtain ⟨i, hi, rfl, hr, hb, hs⟩ := hrel
    have HR := Lib.hid hr
    have HB := Lib.hid hb
    have HS := Lib.hid hs
    clear hr hb hs HR1 HB1 HS1
    by_cases hlt : i < na
    · have hai : ((i : Nat) : Int) < (na : Int) := by omega
      go_wp2_with fail
      go_loopw [7] (fun k wx => ∃ q : Nat, q ≤ nb ∧ k = .int .i64 q ∧ Row .u64 wx 63 w.heap.size (mulCol (mulRow a b i) (a.getD i 0) b i q) ∧ Below w.heap.size w wx ∧ wx.heap.size = w.heap.size + 1) (fun k _ => nb - (intOf k).toNat)
      case atStart => exact ⟨0, by omega, rfl, HR.out, HB.out, HS.out⟩
      case round =>
        obtain ⟨q, hq, rfl, hr, hb, hs⟩ := hrel
        clear HR HB HS
        have HR := Lib.hid hr
        have HB := Lib.hid hb
        have HS := Lib.hid hs
        clear hr hb hs
        by_cases hlt2 : q < nb
        · have hml : (mulCol (mulRow a b i) (a.getD i 0) b i q).length = na + nb + 1 := by rw [mulCol_length, mulRow_length, HNA.out, HNB.out]
          have c1 := HR.out.cellD (i + q) (by rw [hml]; omega)
          have f1 := HR.out.frozen (i + q)
          have c2 := (HSA.out.below HB.out hga).cellD i (by rw [HNA.out]; exact hlt)
          have c3 := (HSB.out.below HB.out hgb).cellD q (by rw [HNB.out]; exact hlt2)
          rw [Nat.zero_add] at c2 c3
          have u1 := u64_at (mulCol_u (mulRow_u a b i) (a.getD i 0) b i q) (i + q)
          have u2 := u64_at HUA.out i
          have u3 := u64_at HUB.out q
          have hst : Row .u64 (wr.setCell ⟨w.heap.size, i + q, none⟩ (.int .u64 (((mulCol (mulRow a b i) (a.getD i 0) b i q).getD (i + q) 0 + a.getD i 0 * b.getD q 0) % 18446744073709551616))) 63 w.heap.size (mulCol (mulRow a b i) (a.getD i 0) b i (q + 1)) := HR.out.set (i + q) _
          generalize (mulCol (mulRow a b i) (a.getD i 0) b i q).getD (i + q) 0 = x at *
          generalize b.getD q 0 = z at *
          generalize hya : a.getD i 0 = y at *
          have HST := Lib.hid hst
          have k1 : IntKind.i64.wrap ((i : Int) + (q : Int)) = (i : Int) + (q : Int) := IntWalk.i64_in _ (by omega)
          have k2 : (0 : Int) ≤ (i : Int) + (q : Int) := by omega
          have k3 : (i : Int) + (q : Int) < ((na + nb + 1 : Nat) : Int) := by omega
          have k4 : ((i : Int) + (q : Int)).toNat = i + q := by omega
          have k5 : (q : Int) < (nb : Int) := by omega
          have k6 : (i : Int) + (q : Int) < (na : Int) + (nb : Int) + 1 := by omega
          have HYA := Lib.hid hya
          clear hst hml hya
          go_wp2_with fail
          go_region
          clear k1 k2 k3 k4 k6 c1 c2 c3 f1
          go_wp2_with fail
          go_roundw
          case rel =>
            refine ⟨q + 1, by omega, by go_num, ?_, (HB.out.setCell (Nat.le_refl _) _).drew, by simpa [World.setCell] using HS.out⟩
            have h := HST.out.drew
            rw [wrap_mul_add]
            exact h
          case measure => simp [intOf]; omega
        · obtain rfl : q = nb := by omega
          have k5 : ¬ (q : Int) < (q : Int) := by omega
          have hnx : mulCol (mulRow a b i) (a.getD i 0) b i q = mulRow a b (i + 1) := by rw [mulRow, HNB.out]
          have hr := HR.out
          rw [hnx] at hr
          have HR' := Lib.hid hr
          clear hr hnx
          go_wp2_with fail
          go_roundw
          case rel => exact ⟨i + 1, by omega, by go_num, HR'.out, HB.out, HS.out⟩
          case measure => simp [intOf]; omega
    · obtain rfl : i = na := by omega
      have hr := HR.out
      have HR' : Hid (Row .u64 wr 63 w.heap.size (carry (mulRow a b i) 0)) := Lib.hid hr
      clear hr
      go_wp2_with fail
      go_loopw [8] (fun k wx => ∃ q : Nat, q ≤ i + nb ∧ k = .int .i64 q ∧ Row .u64 wx 63 w.heap.size (carry (mulRow a b i) q) ∧ Below w.heap.size w wx ∧ wx.heap.size = w.heap.size + 1) (fun k _ => i + nb - (intOf k).toNat)
      case atStart => exact ⟨0, by omega, rfl, HR'.out, HB.out, HS.out⟩
      case round =>
        obtain ⟨q, hq, rfl, hr, hb, hs⟩ := hrel
        clear HR HB HS HR'
        have HR := Lib.hid hr
        have HB := Lib.hid hb
        have HS := Lib.hid hs
        clear hr hb hs
        by_cases hlt2 : q < i + nb
        · have hml : (carry (mulRow a b i) q).length = i + nb + 1 := by rw [carry_length, mulRow_length, HNA.out, HNB.out]
          have c1 := HR.out.cellD (q + 1) (by rw [hml]; omega)
          have c2 := HR.out.cellD q (by rw [hml]; omega)
          have f1 := HR.out.frozen (q + 1)
          have f2 := HR.out.frozen q
          have u1 := u64_at (carry_u (mulRow_u a b i) q) (q + 1)
          have u2 := u64_at (carry_u (mulRow_u a b i) q) q
          have hst : Row .u64 ((wr.setCell ⟨w.heap.size, q + 1, none⟩ (.int .u64 (((carry (mulRow a b i) q).getD (q + 1) 0 + (carry (mulRow a b i) q).getD q 0 / 65536) % 18446744073709551616))).setCell ⟨w.heap.size, q, none⟩ (.int .u64 ((carry (mulRow a b i) q).getD q 0 % 65536))) 63 w.heap.size (carry (mulRow a b i) (q + 1)) := (HR.out.set (q + 1) _).set q _
          generalize (carry (mulRow a b i) q).getD (q + 1) 0 = x at *
          generalize (carry (mulRow a b i) q).getD q 0 = y at *
          have HST := Lib.hid hst
          have k1 : IntKind.i64.wrap ((q : Int) + 1) = (q : Int) + 1 := IntWalk.i64_in _ (by omega)
          have k2 : (0 : Int) ≤ (q : Int) + 1 := by omega
          have k3 : (q : Int) + 1 < ((i + nb + 1 : Nat) : Int) := by omega
          have k4 : ((q : Int) + 1).toNat = q + 1 := by omega
          have k5 : (q : Int) + 1 < (i : Int) + (nb : Int) + 1 := by omega
          have k6 : (q : Int) < (i : Int) + (nb : Int) + 1 := by omega
          have k7 : (q : Int) < (i : Int) + (nb : Int) := by omega
          clear hst hml
          go_wp2_with fail
          go_region
          clear k1 k2 k3 k4 k5 c1 f1
          go_wp2_with fail
          go_roundw
          case rel =>
            refine ⟨q + 1, by omega, by go_num, ?_, ?_, ?_⟩
            · have h := HST.out
              rw [wrap_add64]
              exact h
            · exact ((HB.out.setCell (Nat.le_refl _) _).drew).setCell (Nat.le_refl _) _
            · simpa [World.setCell] using HS.out
          case measure => simp [intOf]; omega
        · obtain rfl : q = i + nb := by omega
          have k7 : ¬ ((i + nb : Nat) : Int) + 1 < (i : Int) + (nb : Int) + 1 := by omega
          have hfin : carry (mulRow a b i) (i + nb) = timesL a b := by rw [timesL, HNA.out, HNB.out]
          have hr := HR.out
          rw [hfin] at hr
          have HR2 := Lib.hid hr
          clear hr hfin
          go_wp2_with fail
          go_ret
          exact ⟨by rw [HNA.out, HNB.out]; rfl, HR2.out, HB.out, HS.out⟩
end Go.Proofs.YtcplfpnaepdddaaDoor

/- The contract of the document's below. -/
namespace Go.Proofs.YtcplfpnaepdddaaDoor
open Go.RowKit
set_option linter.unusedVariables false

theorem digs_u (y : Int) (h0 : 0 ≤ y) (h1 : y ≤ 68719476735) : U64s (digs y) := by
  intro z hz
  simp only [digs, List.mem_cons, List.not_mem_nil, or_false] at hz
  omega
theorem digs_row (w : World) (y : Int) : Row .u64 (w.alloc (.cells #[.int .u64 (y % 65536), .int .u64 (y / 65536 % 65536), .int .u64 (y / 4294967296)] 63)) 63 w.heap.size (digs y) := heap_alloc_new w _

/-- What stands behind the comparison's loop: the same for squares and cubes. -/
theorem cmp_next (z l : List Int) (m : Nat) (h : z.getD m 0 = l.getD m 0) : cmpL z l (m + 1) = cmpL z l m := by
  have : (z.getD m 0 != l.getD m 0) = false := by rw [h]; simp
  simp only [cmpL, this, Bool.false_eq_true, if_false]
theorem cmp_stop (z l : List Int) (m : Nat) (h : z.getD m 0 ≠ l.getD m 0) : cmpL z l (m + 1) = decide (z.getD m 0 < l.getD m 0) := by
  have : (z.getD m 0 != l.getD m 0) = true := by rw [bne_iff_ne]; exact h
  simp only [cmpL, this, if_true]

def BelowPost (w : World) (v : Bool) (e : Ending) (w' : World) : Prop := e = .returned (.bool v) ∧ Below w.heap.size w w'

set_option maxRecDepth 100000 in
set_option maxHeartbeats 2000000 in
theorem below_sq (y p : Int) (w : World) (h0 : 0 ≤ y) (h1 : y ≤ 68719476735) (hp : 0 ≤ p) (hp1 : p ≤ 1000) :
    Calls Tryd.prog 55 #[.int .u64 y, .int .u64 p, .bool false] w (BelowPost w (belowL y p false)) := by
  obtain ⟨i0, hi0, hz0, hz1, hz2⟩ := info_parts infoU64
  have ht : ∀ W, Row .u64 W 63 w.heap.size (digs y) → Calls Tryd.prog 64 #[.slice (some ⟨w.heap.size, 0, none⟩) 3 3, .slice (some ⟨w.heap.size, 0, none⟩) 3 3] W
      (fun e w' => e = .returned (.slice (some ⟨W.heap.size, 0, none⟩) 7 7) ∧ Row .u64 w' 63 W.heap.size (timesL (digs y) (digs y)) ∧ Below W.heap.size W w' ∧ w'.heap.size = W.heap.size + 1) := fun W hW =>
    times_any w.heap.size w.heap.size 3 3 3 3 (digs y) (digs y) W rfl rfl (by omega) (by omega) (digs_u y h0 h1) (digs_u y h0 h1) hW.seg hW.seg hW.lt hW.lt
  have hres : belowL y p false = cmpL (timesL (digs y) (digs y)) ((List.replicate 7 0).set 4 p) 7 := rfl
  have HD := Lib.hid (digs_row w y)
  have hl : (timesL (digs y) (digs y)).length = 7 := by exact timesL_length _ _
  have hu := timesL_u (digs y) (digs y)
  have hll : ((List.replicate 7 (0 : Int)).set 4 p).length = 7 := by simp
  have hlu : U64s ((List.replicate 7 (0 : Int)).set 4 p) := u64_set (u64_rep 7) 4 p hp (by omega)
  have HT := Lib.hid ht
  have HRES := Lib.hid hres
  have HL := Lib.hid hl
  have HU := Lib.hid hu
  have HLL := Lib.hid hll
  have HLU := Lib.hid hlu
  clear ht hres hl hu hll hlu
  go_enter Tryd.func55, Tryd.ntmps55
  go_wp2_with fail
  refine (HT.out _ HD.out).mono ?_
  rintro _ w1 ⟨rfl, hr1, hb1, hs1⟩
  have HD1 : Hid (Row .u64 w1 63 w.heap.size (digs y)) := Lib.hid (HD.out.below hb1 HD.out.lt)
  simp only [World.size_alloc] at hr1
  have HR1 := Lib.hid hr1
  have HB1 : Hid (Below w.heap.size w w1) := Lib.hid (((Below.refl _ _).alloc (Nat.le_refl _) _).trans (hb1.mono (by simp)))
  clear hr1 hb1 hs1
  have hsz : (w.heap.size + 1) < w1.heap.size := HR1.out.lt
  go_wp2_with (first
    | (at_make
       refine wpList_make_ints _ rfl (.tmp 28) (.tmp 28) 62 rfl 63 i0 .u64 Tryd.underlying62 hi0 hz0 hz1 .i64 .i64 7 7 7 rfl rfl rfl rfl (by rw [hz2]; omega) (by simp only [maxLen]; omega) ?_
       intro w3 hr3 hb3 hs3
       obtain ⟨z0, hc3⟩ := hr3.has 4 (by simp)
       have hf3 := hr3.frozen 4
       have HR3 := Lib.hid hr3
       have HB3 := Lib.hid hb3
       clear hr3 hb3 hs3))
  have hz4 : Row .u64 (w3.setCell ⟨w1.heap.size, 4, none⟩ (.int .u64 p)) 63 (w.heap.size + 1) (timesL (digs y) (digs y)) := by
    have h := HR1.out
    
    exact (h.below HB3.out h.lt).far (by have := h.lt; simp; omega) _
  have hl4 : Row .u64 (w3.setCell ⟨w1.heap.size, 4, none⟩ (.int .u64 p)) 63 w1.heap.size ((List.replicate 7 (0 : Int)).set 4 p) := HR3.out.set 4 p
  have hb4 : Below w.heap.size w (w3.setCell ⟨w1.heap.size, 4, none⟩ (.int .u64 p)) := (HB1.out.trans (HB3.out.mono HB1.out.size)).setCell HB1.out.size _
  obtain ⟨w4, hw4⟩ : ∃ w4, w4 = w3.setCell ⟨w1.heap.size, 4, none⟩ (.int .u64 p) := ⟨_, rfl⟩
  rw [← hw4] at hz4 hl4 hb4 ⊢
  have HZ4 := Lib.hid hz4
  have HL4 := Lib.hid hl4
  have HB4 := Lib.hid hb4
  clear hz4 hl4 hb4 hw4 hc3 hf3
  generalize hzz : timesL (digs y) (digs y) = z at *
  generalize hlim : ((List.replicate 7 (0 : Int)).set 4 p) = lim at *
  clear hzz hlim
  go_loopw [11] (fun i wx => ∃ m q : Nat, m ≤ 7 ∧ i = .int .i64 ((m : Int) - 1) ∧ cmpL z lim 7 = cmpL z lim m ∧ wx = w4.drewN q) (fun i _ => (intOf i + 1).toNat)
  case atStart => exact ⟨7, 0, by omega, rfl, rfl, rfl⟩
  case round =>
    obtain ⟨m, q, hm, rfl, hcmp, rfl⟩ := hrel
    have HCMP := Lib.hid hcmp
    clear hcmp
    by_cases hm0 : m = 0
    · subst hm0
      go_wp2_with fail
      go_ret
      refine ⟨?_, below_drewN HB4.out q⟩
      rw [HRES.out, HCMP.out]
      rfl
    · obtain ⟨k, rfl⟩ : ∃ k, m = k + 1 := ⟨m - 1, by omega⟩
      have c1 := HZ4.out.cellD k (by rw [HL.out]; omega)
      have c2 := HL4.out.cellD k (by rw [HLL.out]; omega)
      have u1 := u64_at HU.out k
      have u2 := u64_at HLU.out k
      have hn := cmp_next z lim k
      have hs := cmp_stop z lim k
      rw [show ((k + 1 : Nat) : Int) - 1 = (k : Int) by omega]
      generalize z.getD k 0 = x at *
      generalize lim.getD k 0 = v at *
      have HN := Lib.hid hn
      have HS := Lib.hid hs
      have kb : (k : Int) < 7 := by omega
      clear hn hs
      by_cases hxv : x = v
      · subst hxv
        go_wp2_with fail
        go_quiet (fail)
        go_wp2_with fail
        refine ⟨⟨k, q + nq, by omega, rfl, ?_, rfl⟩, by simp [intOf]⟩
        rw [HCMP.out, HN.out (by trivial)]
      · have hne : (x != v) = true := by rw [bne_iff_ne]; exact hxv
        have HXV := Lib.hid hxv
        clear hxv
        go_wp2_with fail
        go_quiet (fail)
        go_wp2_with fail
        go_quiet (fail)
        go_wp2_with fail
        go_ret
        refine ⟨?_, below_drewN (below_drewN (below_drewN HB4.out _) _) _⟩
        rw [HRES.out, HCMP.out, HS.out HXV.out]
        rfl

set_option maxRecDepth 100000 in
set_option maxHeartbeats 2000000 in
theorem below_cube (y p : Int) (w : World) (h0 : 0 ≤ y) (h1 : y ≤ 68719476735) (hp : 0 ≤ p) (hp1 : p ≤ 1000) :
    Calls Tryd.prog 55 #[.int .u64 y, .int .u64 p, .bool true] w (BelowPost w (belowL y p true)) := by
  obtain ⟨i0, hi0, hz0, hz1, hz2⟩ := info_parts infoU64
  have ht : ∀ W, Row .u64 W 63 w.heap.size (digs y) → Calls Tryd.prog 64 #[.slice (some ⟨w.heap.size, 0, none⟩) 3 3, .slice (some ⟨w.heap.size, 0, none⟩) 3 3] W
      (fun e w' => e = .returned (.slice (some ⟨W.heap.size, 0, none⟩) 7 7) ∧ Row .u64 w' 63 W.heap.size (timesL (digs y) (digs y)) ∧ Below W.heap.size W w' ∧ w'.heap.size = W.heap.size + 1) := fun W hW =>
    times_any w.heap.size w.heap.size 3 3 3 3 (digs y) (digs y) W rfl rfl (by omega) (by omega) (digs_u y h0 h1) (digs_u y h0 h1) hW.seg hW.seg hW.lt hW.lt
  have ht2 : ∀ W g, Row .u64 W 63 w.heap.size (digs y) → Row .u64 W 63 g (timesL (digs y) (digs y)) → Calls Tryd.prog 64 #[.slice (some ⟨g, 0, none⟩) 7 7, .slice (some ⟨w.heap.size, 0, none⟩) 3 3] W
      (fun e w' => e = .returned (.slice (some ⟨W.heap.size, 0, none⟩) 11 11) ∧ Row .u64 w' 63 W.heap.size (timesL (timesL (digs y) (digs y)) (digs y)) ∧ Below W.heap.size W w' ∧ w'.heap.size = W.heap.size + 1) := fun W g hW hg => by
    have h := times_any g w.heap.size 7 3 7 3 (timesL (digs y) (digs y)) (digs y) W (timesL_length _ _) rfl (by omega) (by omega) (timesL_u _ _) (digs_u y h0 h1) hg.seg hW.seg hg.lt hW.lt
    unfold TimesPost at h
    rw [timesL_length] at h
    exact h
  have HT2 := Lib.hid ht2
  have hres : belowL y p true = cmpL (timesL (timesL (digs y) (digs y)) (digs y)) ((List.replicate 11 0).set 6 p) 11 := rfl
  have HD := Lib.hid (digs_row w y)
  have hl : (timesL (timesL (digs y) (digs y)) (digs y)).length = 11 := by rw [timesL_length, timesL_length]; rfl
  have hu := timesL_u (timesL (digs y) (digs y)) (digs y)
  have hll : ((List.replicate 11 (0 : Int)).set 6 p).length = 11 := by simp
  have hlu : U64s ((List.replicate 11 (0 : Int)).set 6 p) := u64_set (u64_rep 11) 6 p hp (by omega)
  have HT := Lib.hid ht
  have HRES := Lib.hid hres
  have HL := Lib.hid hl
  have HU := Lib.hid hu
  have HLL := Lib.hid hll
  have HLU := Lib.hid hlu
  clear ht ht2 hres hl hu hll hlu
  go_enter Tryd.func55, Tryd.ntmps55
  go_wp2_with fail
  refine (HT.out _ HD.out).mono ?_
  rintro _ w1 ⟨rfl, hr1, hb1, hs1⟩
  have HD1 : Hid (Row .u64 w1 63 w.heap.size (digs y)) := Lib.hid (HD.out.below hb1 HD.out.lt)
  simp only [World.size_alloc] at hr1
  have HR1 := Lib.hid hr1
  have HB1 : Hid (Below w.heap.size w w1) := Lib.hid (((Below.refl _ _).alloc (Nat.le_refl _) _).trans (hb1.mono (by simp)))
  clear hr1 hb1 hs1
  go_wp2_with fail
  refine (HT2.out _ _ HD1.out HR1.out).mono ?_
  rintro _ w2 ⟨rfl, hr2, hb2, hs2⟩
  have HR2 := Lib.hid hr2
  have HB2 : Hid (Below w.heap.size w w2) := Lib.hid (HB1.out.trans (hb2.mono HB1.out.size))
  have hsz : w1.heap.size < w2.heap.size := by omega
  clear hr2 hb2 hs2
  go_wp2_with (first
    | (at_make
       refine wpList_make_ints _ rfl (.tmp 28) (.tmp 28) 62 rfl 63 i0 .u64 Tryd.underlying62 hi0 hz0 hz1 .i64 .i64 11 11 11 rfl rfl rfl rfl (by rw [hz2]; omega) (by simp only [maxLen]; omega) ?_
       intro w3 hr3 hb3 hs3
       obtain ⟨z0, hc3⟩ := hr3.has 6 (by simp)
       have hf3 := hr3.frozen 6
       have HR3 := Lib.hid hr3
       have HB3 := Lib.hid hb3
       clear hr3 hb3 hs3))
  have hz4 : Row .u64 (w3.setCell ⟨w2.heap.size, 6, none⟩ (.int .u64 p)) 63 w1.heap.size (timesL (timesL (digs y) (digs y)) (digs y)) := by
    have h := HR2.out
    
    exact (h.below HB3.out h.lt).far (by have := h.lt; simp; omega) _
  have hl4 : Row .u64 (w3.setCell ⟨w2.heap.size, 6, none⟩ (.int .u64 p)) 63 w2.heap.size ((List.replicate 11 (0 : Int)).set 6 p) := HR3.out.set 6 p
  have hb4 : Below w.heap.size w (w3.setCell ⟨w2.heap.size, 6, none⟩ (.int .u64 p)) := (HB2.out.trans (HB3.out.mono HB2.out.size)).setCell HB2.out.size _
  obtain ⟨w4, hw4⟩ : ∃ w4, w4 = w3.setCell ⟨w2.heap.size, 6, none⟩ (.int .u64 p) := ⟨_, rfl⟩
  rw [← hw4] at hz4 hl4 hb4 ⊢
  have HZ4 := Lib.hid hz4
  have HL4 := Lib.hid hl4
  have HB4 := Lib.hid hb4
  clear hz4 hl4 hb4 hw4 hc3 hf3
  generalize hzz : timesL (timesL (digs y) (digs y)) (digs y) = z at *
  generalize hlim : ((List.replicate 11 (0 : Int)).set 6 p) = lim at *
  clear hzz hlim
  go_loopw [11] (fun i wx => ∃ m q : Nat, m ≤ 11 ∧ i = .int .i64 ((m : Int) - 1) ∧ cmpL z lim 11 = cmpL z lim m ∧ wx = w4.drewN q) (fun i _ => (intOf i + 1).toNat)
  case atStart => exact ⟨11, 0, by omega, rfl, rfl, rfl⟩
  case round =>
    obtain ⟨m, q, hm, rfl, hcmp, rfl⟩ := hrel
    have HCMP := Lib.hid hcmp
    clear hcmp
    by_cases hm0 : m = 0
    · subst hm0
      go_wp2_with fail
      go_ret
      refine ⟨?_, below_drewN HB4.out q⟩
      rw [HRES.out, HCMP.out]
      rfl
    · obtain ⟨k, rfl⟩ : ∃ k, m = k + 1 := ⟨m - 1, by omega⟩
      have c1 := HZ4.out.cellD k (by rw [HL.out]; omega)
      have c2 := HL4.out.cellD k (by rw [HLL.out]; omega)
      have u1 := u64_at HU.out k
      have u2 := u64_at HLU.out k
      have hn := cmp_next z lim k
      have hs := cmp_stop z lim k
      rw [show ((k + 1 : Nat) : Int) - 1 = (k : Int) by omega]
      generalize z.getD k 0 = x at *
      generalize lim.getD k 0 = v at *
      have HN := Lib.hid hn
      have HS := Lib.hid hs
      have kb : (k : Int) < 11 := by omega
      clear hn hs
      by_cases hxv : x = v
      · subst hxv
        go_wp2_with fail
        go_quiet (fail)
        go_wp2_with fail
        refine ⟨⟨k, q + nq, by omega, rfl, ?_, rfl⟩, by simp [intOf]⟩
        rw [HCMP.out, HN.out (by trivial)]
      · have hne : (x != v) = true := by rw [bne_iff_ne]; exact hxv
        have HXV := Lib.hid hxv
        clear hxv
        go_wp2_with fail
        go_quiet (fail)
        go_wp2_with fail
        go_quiet (fail)
        go_wp2_with fail
        go_ret
        refine ⟨?_, below_drewN (below_drewN (below_drewN HB4.out _) _) _⟩
        rw [HRES.out, HCMP.out, HS.out HXV.out]
        rfl
end Go.Proofs.YtcplfpnaepdddaaDoor

/- The contract of the document's root. -/
namespace Go.Proofs.YtcplfpnaepdddaaDoor
open Go.RowKit
set_option linter.unusedVariables false

theorem below_any (y p : Int) (cube : Bool) (w : World) (h0 : 0 ≤ y) (h1 : y ≤ 68719476735) (hp : 0 ≤ p) (hp1 : p ≤ 1000) :
    Calls Tryd.prog 55 #[.int .u64 y, .int .u64 p, .bool cube] w (BelowPost w (belowL y p cube)) := by
  cases cube
  · exact below_sq y p w h0 h1 hp hp1
  · exact below_cube y p w h0 h1 hp hp1

/-- The bit of the n-th round; nought behind the last. -/
def bitAt (n : Nat) : Int := if n < 36 then 2 ^ (35 - n) else 0
theorem bitAt_half (n : Nat) (h : n < 36) : bitAt n / 2 = bitAt (n + 1) := by
  unfold bitAt
  rw [if_pos h]
  by_cases h2 : n + 1 < 36
  · rw [if_pos h2, show 35 - n = (35 - (n + 1)) + 1 by omega, Int.pow_succ]
    omega
  · have : n = 35 := by omega
    subst this
    rfl
theorem bitAt_bd (n : Nat) : 0 ≤ bitAt n ∧ bitAt n ≤ 34359738368 := by
  unfold bitAt
  split
  · have h : n = 0 ∨ n = 1 ∨ n = 2 ∨ n = 3 ∨ n = 4 ∨ n = 5 ∨ n = 6 ∨ n = 7 ∨ n = 8 ∨ n = 9 ∨ n = 10 ∨ n = 11 ∨ n = 12 ∨ n = 13 ∨ n = 14 ∨ n = 15 ∨ n = 16 ∨ n = 17 ∨ n = 18 ∨ n = 19 ∨ n = 20 ∨ n = 21 ∨ n = 22 ∨ n = 23 ∨ n = 24 ∨ n = 25 ∨ n = 26 ∨ n = 27 ∨ n = 28 ∨ n = 29 ∨ n = 30 ∨ n = 31 ∨ n = 32 ∨ n = 33 ∨ n = 34 ∨ n = 35 := by omega
    rcases h with rfl | rfl | rfl | rfl | rfl | rfl | rfl | rfl | rfl | rfl | rfl | rfl | rfl | rfl | rfl | rfl | rfl | rfl | rfl | rfl | rfl | rfl | rfl | rfl | rfl | rfl | rfl | rfl | rfl | rfl | rfl | rfl | rfl | rfl | rfl | rfl <;> decide
  · omega
theorem bitAt_pos (n : Nat) (h : n < 36) : 0 < bitAt n := by
  unfold bitAt
  rw [if_pos h]
  exact Int.pow_pos (by omega)
theorem rootAt_bd (p : Int) (cube : Bool) : ∀ n, n ≤ 36 → 0 ≤ rootAt p cube n ∧ rootAt p cube n + 2 ^ (36 - n) ≤ 68719476736
  | 0, _ => by simp [rootAt]
  | n + 1, h => by
    have ih := rootAt_bd p cube n (by omega)
    have hp : (2 : Int) ^ (36 - n) = 2 * 2 ^ (35 - n) := by rw [show 36 - n = (35 - n) + 1 by omega, Int.pow_succ]; omega
    have h0 : (0 : Int) < 2 ^ (35 - n) := Int.pow_pos (by omega)
    rw [hp] at ih
    rw [show 36 - (n + 1) = 35 - n by omega]
    simp only [rootAt]
    split <;> omega
theorem rootAt_next (p : Int) (cube : Bool) (n : Nat) (h : n < 36) : rootAt p cube (n + 1) = if belowL (rootAt p cube n + bitAt n) p cube then rootAt p cube n + bitAt n else rootAt p cube n := by
  have : bitAt n = 2 ^ (35 - n) := by unfold bitAt; rw [if_pos h]
  rw [this]
  rfl
theorem rootAt_y (p : Int) (cube : Bool) (n : Nat) (h : n < 36) : 0 ≤ rootAt p cube n + bitAt n ∧ rootAt p cube n + bitAt n ≤ 68719476735 := by
  have h1 := rootAt_bd p cube n (by omega)
  have hp : (2 : Int) ^ (36 - n) = 2 * 2 ^ (35 - n) := by rw [show 36 - n = (35 - n) + 1 by omega, Int.pow_succ]; omega
  have h0 : (0 : Int) < 2 ^ (35 - n) := Int.pow_pos (by omega)
  have : bitAt n = 2 ^ (35 - n) := by unfold bitAt; rw [if_pos h]
  omega

def RootPost (w : World) (v : Int) (e : Ending) (w' : World) : Prop := e = .returned (.int .u32 v) ∧ Below w.heap.size w w'
set_option maxRecDepth 100000 in
set_option maxHeartbeats 2000000 in
theorem root_any (p : Int) (cube : Bool) (w : World) (hp : 0 ≤ p) (hp1 : p ≤ 1000) :
    Calls Tryd.prog 45 #[.int .u64 p, .bool cube] w (RootPost w (rootL p cube)) := by
  go_enter Tryd.func45, Tryd.ntmps45
  go_wp2_with fail
  go_loopw [5, 6] (fun x b wx => ∃ n : Nat, n ≤ 36 ∧ x = .int .u64 (rootAt p cube n) ∧ b = .int .u64 (bitAt n) ∧ Below w.heap.size w wx) (fun _ b _ => (intOf b).toNat)
  case atStart => exact ⟨0, by omega, rfl, rfl, Below.refl _ _⟩
  case round =>
    obtain ⟨n, hn, rfl, rfl, hb⟩ := hrel
    have HB := Lib.hid hb
    clear hb
    have r1 := rootAt_bd p cube n hn
    have r1' : rootAt p cube n ≤ 68719476736 := by
      have : (0 : Int) < 2 ^ (36 - n) := Int.pow_pos (by omega)
      omega
    have r0 := r1.1
    clear r1
    by_cases hlt : n < 36
    · have ry := rootAt_y p cube n hlt
      have hpos := bitAt_pos n hlt
      have hhalf := bitAt_half n hlt
      have hnext := rootAt_next p cube n hlt
      have bb := bitAt_bd n
      have bb2 := bitAt_bd (n + 1)
      have hc : ∀ W, Calls Tryd.prog 55 #[.int .u64 (rootAt p cube n + bitAt n), .int .u64 p, .bool cube] W (BelowPost W (belowL (rootAt p cube n + bitAt n) p cube)) := fun W => below_any _ p cube W ry.1 ry.2 hp hp1
      generalize belowL (rootAt p cube n + bitAt n) p cube = v at *
      generalize hbn : bitAt n = bt at *
      generalize hrn : rootAt p cube n = rt at *
      have HC := Lib.hid hc
      have HH := Lib.hid hhalf
      have HN := Lib.hid hnext
      clear hc hhalf hnext hbn hrn
      cases v
      · go_wp2_with (first
          | (go_at_call 55
             (with_reducible refine (HC.out _).mono ?_)
             rintro _ w1 ⟨rfl, hb1⟩
             have HB1 := Lib.hid hb1
             clear hb1))
        go_roundw
        case rel => exact ⟨n + 1, by omega, by rw [HN.out]; rfl, by rw [HH.out], HB.out.trans (HB1.out.mono HB.out.size)⟩
        case measure => simp [intOf]; omega
      · go_wp2_with (first
          | (go_at_call 55
             (with_reducible refine (HC.out _).mono ?_)
             rintro _ w1 ⟨rfl, hb1⟩
             have HB1 := Lib.hid hb1
             clear hb1))
        go_roundw
        case rel => exact ⟨n + 1, by omega, by rw [HN.out]; rfl, by rw [HH.out], HB.out.trans (HB1.out.mono HB.out.size)⟩
        case measure => simp [intOf]; omega
    · obtain rfl : n = 36 := by omega
      have hz : bitAt 36 = 0 := rfl
      rw [hz]
      have hfin : rootL p cube = rootAt p cube 36 % 4294967296 := rfl
      generalize rootAt p cube 36 = rt at *
      have HFIN := Lib.hid hfin
      clear hz hfin
      go_wp2_with fail
      go_ret
      exact ⟨by rw [HFIN.out]; rfl, HB.out⟩
end Go.Proofs.YtcplfpnaepdddaaDoor

/- The contract of the document's Made: the tables. -/
namespace Go.Proofs.YtcplfpnaepdddaaDoor
open Go.RowKit
set_option linter.unusedVariables false

/-- Block g holds a Tables: the slice v, the words hs. -/
def TB (w : World) (g : Nat) (v : Value) (hs : List Int) : Prop := w.heap[g]? = some (.cells (v :: hs.map (Value.int .u32)).toArray 42 (0, 0))
section
variable {w w' : World} {g : Nat} {v : Value} {hs : List Int}
theorem TB.lt (h : TB w g v hs) : g < w.heap.size := by
  rcases Nat.lt_or_ge g w.heap.size with hlt | hge
  · exact hlt
  · unfold TB at h; rw [Array.getElem?_eq_none hge] at h; cases h
theorem TB.cell0 (h : TB w g v hs) : w.cell? ⟨g, 0, none⟩ = some v := by
  rw [cell_of_row w g 0 _ _ (0, 0) h]; simp
theorem TB.cellH (h : TB w g v hs) (i : Nat) (hi : i < hs.length) : w.cell? ⟨g, 1 + i, none⟩ = some (.int .u32 (hs.getD i 0)) := by
  rw [cell_of_row w g (1 + i) _ _ (0, 0) h, Nat.add_comm]
  simp [hi, List.getD]
theorem TB.frozen (h : TB w g v hs) (i : Nat) : w.frozen? ⟨g, i, none⟩ = false := by
  unfold TB at h
  simp [World.frozen?, h]
theorem TB.set0 (h : TB w g v hs) (u : Value) : TB (w.setCell ⟨g, 0, none⟩ u) g u hs := by
  unfold TB at h ⊢
  simp [World.setCell, Array.getElem?_modify, h]
theorem TB.setH (h : TB w g v hs) (i : Nat) (z : Int) : TB (w.setCell ⟨g, 1 + i, none⟩ (.int .u32 z)) g v (hs.set i z) := by
  unfold TB at h ⊢
  rw [Nat.add_comm]
  simp [World.setCell, Array.getElem?_modify, h, List.map_set]
theorem TB.far (h : TB w g v hs) {p : Addr} (hp : g ≠ p.block) (u : Value) : TB (w.setCell p u) g v hs := (Below.heap_setCell w p u g hp).trans h
theorem TB.alloc (h : TB w g v hs) (o : Obj) : TB (w.alloc o) g v hs := (Below.heap_alloc w o g h.lt).trans h
theorem TB.drewN (h : TB w g v hs) (n : Nat) : TB (w.drewN n) g v hs := h
theorem TB.below {B : Nat} (h : TB w g v hs) (hb : Below B w w') (hg : g < B) : TB w' g v hs := (hb.block g hg).trans h
theorem TB.grown {row : Option Nat} (h : TB w g v hs) (hb : w.grownBy w' row) (hg : some g ≠ row) : TB w' g v hs := (hb.block g h.lt hg).trans h
end
/-- The tables as a value: the slice of the constants, and the words at first. -/
def tabV (g c : Nat) : Value := .agg (Value.slice (some ⟨g, 0, none⟩) 64 c :: hTab.map (Value.int .u32)).toArray
theorem sizeTab : (Tryd.prog.info? 42).map (·.size) = some 9 := by kernel_rfl
def MadePost (w : World) (e : Ending) (w' : World) : Prop :=
  ∃ g c, e = .returned (tabV g c) ∧ w'.ownsRow (w.heap.size + 2) 39 1 (.slice (some ⟨g, 0, none⟩) 64 c) 64 (kTab.map (Value.int .u32)) ∧ Below w.heap.size w w'
theorem infoU32m : (Tryd.prog.info? 39).map (fun i => (i.zero, i.size, i.bytes)) = some (some (.int .u32 0), 1, 4) := by kernel_rfl

set_option maxRecDepth 100000 in
set_option maxHeartbeats 4000000 in
theorem made_any (w : World) : Calls Tryd.prog 19 #[] w (MadePost w) := by
  obtain ⟨i0, hi0, hz0, hz1, hz2⟩ := info_parts infoU64
  obtain ⟨j0, hj0, hy0, hy1, hy2⟩ := info_parts infoU32m
  go_enter Tryd.func19, Tryd.ntmps19
  go_wp2_with fail
  go_loopw [2, 3] (fun l k wx => ∃ (n : Nat) (a : Option Addr) (c : Nat), n ≤ 310 ∧ k = .int .u64 ((n + 2 : Nat) : Int) ∧ l = .slice a (sieve n).length c ∧ wx.ownsRow (w.heap.size + 2) 63 1 (.slice a (sieve n).length c) (sieve n).length ((sieve n).map (Value.int .u64)) ∧ TB wx w.heap.size (.slice none 0 0) [0, 0, 0, 0, 0, 0, 0, 0] ∧ TB wx (w.heap.size + 1) (.slice none 0 0) [0, 0, 0, 0, 0, 0, 0, 0] ∧ Below w.heap.size w wx) (fun _ k _ => 312 - (intOf k).toNat)
  case atStart =>
    refine ⟨0, none, 0, by omega, rfl, rfl, World.ownsRow_nil _ _ _ _, ?_, ?_, ((Below.refl _ _).alloc (Nat.le_refl _) _).alloc (by simp) _⟩
    · exact heap_alloc2_old w _ _
    · exact heap_alloc2_new w _ _
  case round =>
    obtain ⟨n, a, c, hn, rfl, rfl, ho, ht0, ht1, hb⟩ := hrel
    have HO := Lib.hid ho
    have HT0 := Lib.hid ht0
    have HT1 := Lib.hid ht1
    have HB := Lib.hid hb
    clear ho ht0 ht1 hb
    by_cases hlt : n < 310
    · have hsh := sieve_short n hlt
      have hnx := sieve_next n
      have hok := sieve_ok n (by omega)
      generalize sieve n = ps at *
      have HNX := Lib.hid hnx
      have HOK := Lib.hid hok
      clear hnx hok
      have hlen2 : ((ps.length : Nat) : Int) < 64 := by omega
      have hkk : (2 : Int) ≤ ((n + 2 : Nat) : Int) ∧ ((n + 2 : Nat) : Int) ≤ 312 := by omega
      generalize hkn : ((n + 2 : Nat) : Int) = k at *
      have HKN := Lib.hid hkn
      clear hkn
      go_wp2_with fail
      go_loop [4, 5] (fun ok i => ∃ j : Nat, j ≤ ps.length ∧ i = .int .i64 j ∧ ok = .bool (allNe k ps j)) (fun _ i => ps.length - (intOf i).toNat)
      case atStart => exact ⟨0, by omega, rfl, rfl⟩
      case round =>
        obtain ⟨j, hj, rfl, rfl⟩ := hrel
        by_cases hlt2 : j < ps.length
        · have hjl : (j : Int) < (ps.length : Int) := by omega
          have hq := HOK.out (ps.getD j 0) (by simp [List.getD, hlt2])
          have hform : ∃ g, a = some ⟨g, 0, none⟩ := by
            obtain ⟨g, cap, hv, _, _⟩ := HO.out.form (by omega)
            injection hv with h1
            exact ⟨g, h1⟩
          obtain ⟨g, rfl⟩ := hform
          have hc : wr.cell? ⟨g, j, none⟩ = some (.int .u64 (ps.getD j 0)) := by
            have h := HO.out.cells (g := g) rfl j (.int .u64 (ps.getD j 0)) (by simp [List.getD, hlt2])
            have hp : (⟨g, 0, none⟩ : Addr).add j = ⟨g, j, none⟩ := by unfold Addr.add; split <;> simp_all
            rw [hp] at h
            exact h
          have hst : allNe k ps (j + 1) = (allNe k ps j && (k % ps.getD j 0 != 0)) := rfl
          generalize ps.getD j 0 = q at *
          have HST := Lib.hid hst
          clear hst
          have hq0 : (q == 0) = false := by rw [beq_eq_false_iff_ne]; omega
          cases hb2 : allNe k ps j
          · rw [hb2] at HST
            have HST2 := Lib.hid HST.out
            clear HST
            go_wp2_with fail
            go_round
            case rel => exact ⟨j + 1, by omega, by go_num, by rw [HST2.out]; rfl⟩
            case measure => simp [intOf]; omega
          · rw [hb2] at HST
            have HST2 := Lib.hid HST.out
            clear HST
            go_wp2_with fail
            exact ⟨⟨j + 1, by omega, by go_num, by rw [HST2.out]; rfl⟩, by simp [intOf]; omega⟩
        · obtain rfl : j = ps.length := by omega
          have hkk2 : k + 1 = ((n + 1 + 2 : Nat) : Int) := by rw [← HKN.out]; omega
          have HKK2 := Lib.hid hkk2
          clear hkk2
          cases hb2 : allNe k ps ps.length
          · have hps : sieve (n + 1) = ps := by rw [HNX.out, hb2]; rfl
            have HPS := Lib.hid hps
            clear hps hb2
            go_wp2_with fail
            go_roundw
            case rel =>
              refine ⟨n + 1, a, c, by omega, by rw [← HKK2.out], ?_, ?_, HT0.out, HT1.out, HB.out⟩
              · rw [HPS.out]
              · rw [HPS.out]; exact HO.out
            case measure =>
              have := HKN.out
              simp [intOf]; omega
          · have hps : sieve (n + 1) = ps ++ [k] := by rw [HNX.out, hb2]; rfl
            have HPS := Lib.hid hps
            clear hps hb2
            go_wp2_with (first
              | (at_builtin
                 refine wpList_append_lies _ rfl (.tmp 30) (.tmp 32) 62 rfl (w.heap.size + 2) 63 i0 _ 1 8 Tryd.underlying62 hi0 hz0 hz1 hz2 rfl (by omega) (.slice a ps.length c) ps.length (ps.map (Value.int .u64)) rfl (HO.out.alloc _) ⟨wr.heap.size, 0, none⟩ 1 1 [.int .u64 k] rfl rfl (cell_one_new _ _ _) (by simp [Value.oneCell']) (by omega) (by simp only [maxLen]; omega) (by omega) (by have := HT1.out.lt; simp; omega) (wr.heap.size + 1) (by simp) ?_
                 intro g1 c1 w1 hown1 hg1 hat1 hlt1
                 have HO1 := Lib.hid hown1
                 have HG1 := Lib.hid hg1
                 clear hown1 hg1 hat1 hlt1))
            go_roundw
            case rel =>
              refine ⟨n + 1, some ⟨g1, 0, none⟩, c1, by omega, by rw [← HKK2.out], ?_, ?_, ?_, ?_, ?_⟩
              · rw [HPS.out]; simp
              · rw [HPS.out]
                have h := HO1.out
                rw [show (ps ++ [k]).length = ps.length + 1 by simp, List.map_append]
                exact h
              · exact (HT0.out.alloc _).grown HG1.out (fun e => by have := (HO.out.lt _ e.symm).1; omega)
              · exact (HT1.out.alloc _).grown HG1.out (fun e => by have := (HO.out.lt _ e.symm).1; omega)
              · exact (HB.out.alloc HB.out.size _).grown HG1.out (by have := HB.out.size; simp; omega) (fun q hq => by have := (HO.out.lt q hq).1; omega)
            case measure =>
              have := HKN.out
              simp [intOf]; omega
    · obtain rfl : n = 310 := by omega
      have ho := HO.out
      rw [sieve_all] at ho
      rw [sieve_all, show ((310 + 2 : Nat) : Int) = 312 from rfl]
      have hpl : primes.length = 64 := rfl
      rw [hpl] at ho ⊢
      obtain ⟨gl, cl, hv, hgl, hgl2⟩ := ho.form (by omega)
      rw [hv] at ho ⊢
      clear HO
      have HO := Lib.hid ho
      clear ho hv hpl
      go_wp2_with fail
      go_loopw [6] (fun i wx => ∃ (j : Nat) (v : Value), j ≤ 64 ∧ i = .int .i64 j ∧ TB wx (w.heap.size + 1) v [0, 0, 0, 0, 0, 0, 0, 0] ∧ wx.ownsRow (w.heap.size + 2) 39 1 v j ((kTab.take j).map (Value.int .u32)) ∧ wx.ownsRow (w.heap.size + 2) 63 1 (.slice (some ⟨gl, 0, none⟩) 64 cl) 64 (primes.map (Value.int .u64)) ∧ TB wx w.heap.size (.slice none 0 0) [0, 0, 0, 0, 0, 0, 0, 0] ∧ Below w.heap.size w wx) (fun i _ => 64 - (intOf i).toNat)
      case atStart => exact ⟨0, .slice none 0 0, by omega, rfl, HT1.out, World.ownsRow_nil _ _ _ _, HO.out, HT0.out, HB.out⟩
      case round =>
        obtain ⟨j, v, hj, rfl, ht1, hov, hol, ht0, hb⟩ := hrel
        clear HO HT0 HT1 HB
        have HT1 := Lib.hid ht1
        have HOV := Lib.hid hov
        have HOL := Lib.hid hol
        have HT0 := Lib.hid ht0
        have HB := Lib.hid hb
        clear ht1 hov hol ht0 hb
        by_cases hlt2 : j < 64
        · have c0 := HT1.out.cell0
          have cj : wr.cell? ⟨gl, j, none⟩ = some (.int .u64 (primes.getD j 0)) := by
            have h := HOL.out.cells (g := gl) rfl j (.int .u64 (primes.getD j 0)) (by simp [List.getD, show j < primes.length from hlt2])
            have hp : (⟨gl, 0, none⟩ : Addr).add j = ⟨gl, j, none⟩ := by unfold Addr.add; split <;> simp_all
            rw [hp] at h
            exact h
          have hpr : 0 ≤ primes.getD j 0 ∧ primes.getD j 0 ≤ 1000 := by
            have h := sieve_ok 310 (by omega) (primes.getD j 0) (by rw [sieve_all]; simp [List.getD, show j < primes.length from hlt2])
            omega
          have hroot : ∀ W, Calls Tryd.prog 45 #[.int .u64 (primes.getD j 0), .bool true] W (RootPost W (kTab.getD j 0)) := fun W => by
            rw [← kroots j hlt2]
            exact root_any _ true W hpr.1 hpr.2
          have htk : kTab.take (j + 1) = kTab.take j ++ [kTab.getD j 0] := by
            rw [List.take_succ_eq_append_getElem (show j < kTab.length from hlt2)]
            simp [List.getD, show j < kTab.length from hlt2]
          generalize primes.getD j 0 = pj at *
          generalize kTab.getD j 0 = kj at *
          have HROOT := Lib.hid hroot
          have HTK := Lib.hid htk
          have kT : w.heap.size + 1 < wr.heap.size := HT1.out.lt
          have kL : gl < wr.heap.size := (HOL.out.lt gl rfl).2
          have jb : (j : Int) < 64 := by omega
          clear hroot htk hpr
          go_wp2_with fail
          go_region_law (first
            | (refine step_append_lies _ (by rfl) (.tmp 39) (.tmp 45) 38 (by rfl) (w.heap.size + 2) 39 j0 _ 1 4 Tryd.underlying38 hj0 hy0 hy1 hy2 rfl (by omega) v j ((kTab.take j).map (Value.int .u32)) (by rfl) (HV2.out.alloc _) ⟨w2.heap.size, 0, none⟩ 1 1 [.int .u32 kj] (by rfl) (by rfl) (cell_one_new w2 _ _) (by simp [Value.oneCell']) (by omega) (by simp only [maxLen]; omega) (by omega) (by have := HT2.out.lt; simp; omega) (w2.heap.size + 1) (by simp) ?_; intro g5 cap5 w5 hown5 hg5 hat5 hlt5; have HO5 := Lib.hid hown5; have HT5 := Lib.hid ((HT2.out.alloc (.cells #[.int .u32 kj] 39)).grown hg5 (fun e => by have := (HV2.out.lt _ e.symm).1; omega)); have HZ5 := Lib.hid ((HZ2.out.alloc (.cells #[.int .u32 kj] 39)).grown hg5 (fun e => by have := (HV2.out.lt _ e.symm).1; omega)); have HL5 := Lib.hid ((HL2.out.alloc (.cells #[.int .u32 kj] 39)).kept hg5 (.inr (by have := own_ne HL2.out HV2.out (by decide); exact fun e => this (by rw [← e]; rfl)))); have HB5 := Lib.hid ((HB2.out.alloc HB2.out.size (.cells #[.int .u32 kj] 39)).grown hg5 (by have := HB2.out.size; simp; omega) (fun q hq => by have := (HV2.out.lt q hq).1; omega)); have d0 := HT5.out.cell0; have df := HT5.out.frozen 0; clear hown5 hg5 hat5 hlt5)
            | (go_simp; go_at_call 45; (with_reducible refine (HROOT.out _).mono ?_); rintro _ w2 ⟨rfl, hb2⟩; have HT2 : Hid (TB w2 (w.heap.size + 1) v [0, 0, 0, 0, 0, 0, 0, 0]) := Lib.hid (TB.below (w := wr.drew) HT1.out hb2 HT1.out.lt); have HZ2 : Hid (TB w2 w.heap.size (.slice none 0 0) [0, 0, 0, 0, 0, 0, 0, 0]) := Lib.hid (TB.below (w := wr.drew) HT0.out hb2 HT0.out.lt); have HV2 : Hid (w2.ownsRow (w.heap.size + 2) 39 1 v j ((kTab.take j).map (Value.int .u32))) := Lib.hid (World.ownsRow.kept (w := wr.drew) HOV.out (only_below hb2 none) (by cases v.ownBlock <;> simp)); have HL2 : Hid (w2.ownsRow (w.heap.size + 2) 63 1 (.slice (some ⟨gl, 0, none⟩) 64 cl) 64 (primes.map (Value.int .u64))) := Lib.hid (World.ownsRow.kept (w := wr.drew) HOL.out (only_below hb2 none) (.inr (by simp [Value.ownBlock]))); have HB2 : Hid (Below w.heap.size w w2) := Lib.hid (HB.out.drew.trans (hb2.mono HB.out.size)); have e0 := HT2.out.cell0; have kT2 : w.heap.size + 1 < w2.heap.size := HT2.out.lt; have kT3 : ¬ w.heap.size + 1 = w2.heap.size := (by omega); clear hb2))
          all_goals
            go_wp2_with fail
            go_roundw
            case rel =>
              refine ⟨j + 1, .slice (some ⟨g5, 0, none⟩) (j + 1) cap5, by omega, by go_num, HT5.out.set0 _, ?_, ?_, HZ5.out.far (p := ⟨w.heap.size + 1, 0, none⟩) (by simp) _, HB5.out.setCell (p := ⟨w.heap.size + 1, 0, none⟩) (Nat.le_succ _) _⟩
              · rw [HTK.out, List.map_append]
                exact HO5.out.kept (only_set (only_refl w5 (some (w.heap.size + 1))) 0 _) (.inr (fun e => by have := (HO5.out.lt _ e).1; omega))
              · exact HL5.out.kept (only_set (only_refl w5 (some (w.heap.size + 1))) 0 _) (.inr (fun e => by have := (HL5.out.lt _ e).1; omega))
            case measure => simp [intOf]; omega
        · obtain rfl : j = 64 := by omega
          have hov := HOV.out
          rw [show kTab.take 64 = kTab from rfl] at hov
          obtain ⟨gk, ck, hv, hgk, hgk2⟩ := hov.form (by omega)
          rw [hv] at hov
          have ht1 := HT1.out
          rw [hv] at ht1
          clear HOV HT1
          have HOV := Lib.hid hov
          have HT1 := Lib.hid ht1
          clear hov ht1 hv
          rw [show ((64 : Nat) : Int) = 64 from rfl]
          go_wp2_with fail
          go_loopw [7] (fun i wx => ∃ j : Nat, j ≤ 8 ∧ i = .int .i64 j ∧ TB wx (w.heap.size + 1) (.slice (some ⟨gk, 0, none⟩) 64 ck) (hTab.take j ++ List.replicate (8 - j) 0) ∧ wx.ownsRow (w.heap.size + 2) 39 1 (.slice (some ⟨gk, 0, none⟩) 64 ck) 64 (kTab.map (Value.int .u32)) ∧ wx.ownsRow (w.heap.size + 2) 63 1 (.slice (some ⟨gl, 0, none⟩) 64 cl) 64 (primes.map (Value.int .u64)) ∧ TB wx w.heap.size (.slice none 0 0) [0, 0, 0, 0, 0, 0, 0, 0] ∧ Below w.heap.size w wx) (fun i _ => 8 - (intOf i).toNat)
          case atStart => exact ⟨0, by omega, rfl, HT1.out, HOV.out, HOL.out, HT0.out, HB.out⟩
          case round =>
            obtain ⟨j, hj, rfl, ht1, hov, hol, ht0, hb⟩ := hrel
            clear HOV HOL HT0 HT1 HB
            have HT1 := Lib.hid ht1
            have HOV := Lib.hid hov
            have HOL := Lib.hid hol
            have HT0 := Lib.hid ht0
            have HB := Lib.hid hb
            clear ht1 hov hol ht0 hb
            by_cases hlt2 : j < 8
            · have hjp : j < primes.length := show j < 64 by omega
              have cj : wr.cell? ⟨gl, j, none⟩ = some (.int .u64 (primes.getD j 0)) := by
                have h := HOL.out.cells (g := gl) rfl j (.int .u64 (primes.getD j 0)) (by simp [List.getD, hjp])
                have hp : (⟨gl, 0, none⟩ : Addr).add j = ⟨gl, j, none⟩ := by unfold Addr.add; split <;> simp_all
                rw [hp] at h
                exact h
              have hpr : 0 ≤ primes.getD j 0 ∧ primes.getD j 0 ≤ 1000 := by
                have h := sieve_ok 310 (by omega) (primes.getD j 0) (by rw [sieve_all]; simp [List.getD, hjp])
                omega
              have hroot : ∀ W, Calls Tryd.prog 45 #[.int .u64 (primes.getD j 0), .bool false] W (RootPost W (hTab.getD j 0)) := fun W => by
                rw [← hroots j hlt2]
                exact root_any _ false W hpr.1 hpr.2
              have hjh : j < hTab.length := hlt2
              have hset : (hTab.take j ++ List.replicate (8 - j) 0).set j (hTab.getD j 0) = hTab.take (j + 1) ++ List.replicate (8 - (j + 1)) 0 := by
                have e := set_at (hTab.take j) (7 - j) (hTab.getD j 0)
                have hl : (hTab.take j).length = j := by rw [List.length_take]; exact Nat.min_eq_left (Nat.le_of_lt hjh)
                rw [hl, show 7 - j + 1 = 8 - j by omega] at e
                rw [e, List.take_succ_eq_append_getElem hjh, show 7 - j = 8 - (j + 1) by omega]
                simp [List.getD, hjh]
              have hlen : (hTab.take j ++ List.replicate (8 - j) (0 : Int)).length = 8 := by
                rw [List.length_append, List.length_take, List.length_replicate, show hTab.length = 8 from rfl]
                omega
              generalize primes.getD j 0 = pj at *
              generalize hTab.getD j 0 = kj at *
              have HROOT := Lib.hid hroot
              have HSET := Lib.hid hset
              have HLEN := Lib.hid hlen
              have jb : (j : Int) < 8 := by omega
              have jb2 : (j : Int) < 64 := by omega
              clear hroot hset hpr hlen
              go_wp2_with (first
                | (go_at_call 45
                   (with_reducible refine (HROOT.out _).mono ?_)
                   rintro _ w2 ⟨rfl, hb2⟩
                   have HT2 := Lib.hid (HT1.out.below hb2 HT1.out.lt)
                   have HZ2 := Lib.hid (HT0.out.below hb2 HT0.out.lt)
                   have HV2 := Lib.hid (HOV.out.kept (only_below hb2 none) (.inr (by simp [Value.ownBlock])))
                   have HL2 := Lib.hid (HOL.out.kept (only_below hb2 none) (.inr (by simp [Value.ownBlock])))
                   have HB2 := Lib.hid (HB.out.trans (hb2.mono HB.out.size))
                   have d0 := HT2.out.cellH j (by rw [HLEN.out]; exact hlt2)
                   have df := HT2.out.frozen (1 + j)
                   clear hb2))
              refine ⟨⟨j + 1, by omega, by go_num, ?_, ?_, ?_, ?_, ?_⟩, by simp [intOf]; omega⟩
              · rw [← HSET.out]
                exact HT2.out.setH j kj
              · exact HV2.out.kept (only_set (only_refl w2 (some (w.heap.size + 1))) _ _) (.inr (fun e => by have := (HV2.out.lt _ e).1; omega))
              · exact HL2.out.kept (only_set (only_refl w2 (some (w.heap.size + 1))) _ _) (.inr (fun e => by have := (HL2.out.lt _ e).1; omega))
              · exact HZ2.out.far (p := ⟨w.heap.size + 1, 1 + j, none⟩) (by simp) _
              · exact HB2.out.setCell (p := ⟨w.heap.size + 1, 1 + j, none⟩) (Nat.le_succ _) _
            · obtain rfl : j = 8 := by omega
              have ht1 := HT1.out
              rw [show hTab.take 8 ++ List.replicate (8 - 8) 0 = hTab from rfl] at ht1
              clear HT1
              have HT1 := Lib.hid ht1
              clear ht1
              go_wp2_with (first
                | (refine wpList_load_row rfl 42 (.tmp 1) rfl (w.heap.size + 1) rfl 42 _ (0, 0) _ HT1.out Tryd.underlying42 rfl sizeTab ?_)
                | (refine wpList_store_row rfl 42 (.tmp 0) (.tmp 60) rfl w.heap.size (Value.slice (some ⟨gk, 0, none⟩) 64 ck :: hTab.map (Value.int .u32)).toArray rfl rfl 42 _ HT0.out sizeTab rfl (by simp [Value.oneCell']) ?_))
              have hg9 : wr.grownBy (wr.setRow w.heap.size (Value.slice (some ⟨gk, 0, none⟩) 64 ck :: hTab.map (Value.int .u32)).toArray) (some w.heap.size) := ⟨rfl, rfl, rfl, by simp, fun q hq hne => setRow_other wr w.heap.size q _ (fun e => hne (by rw [e]))⟩
              refine bodyPost_ret (v := tabV gk ck) (results_cell_row Tryd.results19 _ _ w.heap.size 42 _ _ _ rfl (setRow_heap wr w.heap.size _ _ _ _ HT0.out) Tryd.underlying42 rfl sizeTab) rfl ⟨gk, ck, rfl, ?_, ?_⟩
              · exact HOV.out.kept hg9 (.inr (fun e => by have := (HOV.out.lt _ e).1; omega))
              · exact below_only HB.out hg9 HB.out.size (Nat.le_refl _)
end Go.Proofs.YtcplfpnaepdddaaDoor
