/- The first 64 primes, as the document seeks them. No program is named here. The roots of the primes 0 to 15, reckoned: they are the constants. No program is named here. The roots of the primes 16 to 31, reckoned: they are the constants. No program is named here. The roots of the primes 32 to 47, reckoned: they are the constants. No program is named here. The roots of the primes 48 to 63, reckoned: they are the constants. No program is named here. All the roots. No program is named here. The contract of the document's times. The contract of the document's below. The contract of the document's root. The contract of the document's Made: the tables. The contract of the document's Tail. The contract of the document's Words. The contract of the document's step of a block. Facts on states and tables that the laws ask. The contract of the document's digest. The contract of the document's digest. The contract of the document's digest of a tree. The contract of the document's Fits. What the program's Cut, Fits, Join and Count of layer 11 tell, as their contracts say it. What is laid together has the head's digest, by what Join asks of its parts. No program is named here. -/
import Derived.Test.YtkcmohmfejmfoaaGreatDoorMAB
import Derived.Test.YtkcmohmfejmfoaaGreatDoorMAA
import Derived.Test.YtkcmohmfejmfoaaGreatDoorProg
import Derived.WalkLawsBesides
import Derived.WalkSpells
import Derived.Outline
import Derived.Lib.Hide
import Derived.LoopTactic
import Derived.IntWalk
import Derived.RegionTactic
import Derived.BigRegion
import Derived.Deep.QuietTactic
import Derived.BigQuiet
import Derived.OwnWalk
import Derived.Maps.AppendAt
import Derived.Deep.AppendLies
import Derived.Deep.RegionLaw
import Derived.Deep.RegionWith
import Derived.Lib.IfaceEq
import Derived.Deep.DeepCutAuto
import Derived.Test.YtkcmohmfejmfoaaGreatDoorMAC
/- The first 64 primes, as the document seeks them. No program is named here. The roots of the primes 0 to 15, reckoned: they are the constants. No program is named here. The roots of the primes 16 to 31, reckoned: they are the constants. No program is named here. The roots of the primes 32 to 47, reckoned: they are the constants. No program is named here. The roots of the primes 48 to 63, reckoned: they are the constants. No program is named here. All the roots. No program is named here. The contract of the document's times. The contract of the document's below. The contract of the document's root. The contract of the document's Made: the tables. -/
/- The first 64 primes, as the document seeks them. No program is named here. -/
namespace Go.Proofs.YtkcmohmfejmfoaaGreatDoor
set_option linter.unusedVariables false
set_option maxRecDepth 100000

def allNe (k : Int) (l : List Int) : Nat → Bool
  | 0 => true
  | i + 1 => allNe k l i && (k % l.getD i 0 != 0)
/-- What was found when the numbers up to n + 1 were tried. -/
def sieve : Nat → List Int
  | 0 => []
  | n + 1 => match sieve n with
    | l => if allNe (n + 2 : Nat) l l.length then l ++ [((n + 2 : Nat) : Int)] else l
def primes : List Int := [2, 3, 5, 7, 11, 13, 17, 19, 23, 29, 31, 37, 41, 43, 47, 53, 59, 61, 67, 71, 73, 79, 83, 89, 97, 101, 103, 107, 109, 113, 127, 131, 137, 139, 149, 151, 157, 163, 167, 173, 179, 181, 191, 193, 197, 199, 211, 223, 227, 229, 233, 239, 241, 251, 257, 263, 269, 271, 277, 281, 283, 293, 307, 311]
theorem sieve_all : sieve 310 = primes := by decide +kernel
theorem sieve_short : ∀ n, n < 310 → (sieve n).length < 64 := by
  have h : (List.range 310).all (fun n => decide ((sieve n).length < 64)) = true := by decide +kernel
  intro n hn
  have := List.all_eq_true.1 h n (List.mem_range.2 hn)
  exact of_decide_eq_true this
theorem sieve_ok : ∀ n, n ≤ 310 → ∀ z ∈ sieve n, 2 ≤ z ∧ z ≤ 1000 := by
  have h : (List.range 311).all (fun n => (sieve n).all (fun z => decide (2 ≤ z ∧ z ≤ 1000))) = true := by decide +kernel
  intro n hn z hz
  have h1 := List.all_eq_true.1 h n (List.mem_range.2 (by omega))
  have h2 := List.all_eq_true.1 h1 z hz
  exact of_decide_eq_true h2
theorem sieve_next (n : Nat) : sieve (n + 1) = if allNe (n + 2 : Nat) (sieve n) (sieve n).length then sieve n ++ [((n + 2 : Nat) : Int)] else sieve n := rfl
end Go.Proofs.YtkcmohmfejmfoaaGreatDoor

/- The roots of the primes 0 to 15, reckoned: they are the constants. No program is named here. -/
namespace Go.Proofs.YtkcmohmfejmfoaaGreatDoor
set_option maxRecDepth 100000
theorem kroot0 : rootL 2 true = kTab.getD 0 0 := by decide +kernel
theorem kroot1 : rootL 3 true = kTab.getD 1 0 := by decide +kernel
theorem kroot2 : rootL 5 true = kTab.getD 2 0 := by decide +kernel
theorem kroot3 : rootL 7 true = kTab.getD 3 0 := by decide +kernel
theorem kroot4 : rootL 11 true = kTab.getD 4 0 := by decide +kernel
theorem kroot5 : rootL 13 true = kTab.getD 5 0 := by decide +kernel
theorem kroot6 : rootL 17 true = kTab.getD 6 0 := by decide +kernel
theorem kroot7 : rootL 19 true = kTab.getD 7 0 := by decide +kernel
theorem kroot8 : rootL 23 true = kTab.getD 8 0 := by decide +kernel
theorem kroot9 : rootL 29 true = kTab.getD 9 0 := by decide +kernel
theorem kroot10 : rootL 31 true = kTab.getD 10 0 := by decide +kernel
theorem kroot11 : rootL 37 true = kTab.getD 11 0 := by decide +kernel
theorem kroot12 : rootL 41 true = kTab.getD 12 0 := by decide +kernel
theorem kroot13 : rootL 43 true = kTab.getD 13 0 := by decide +kernel
theorem kroot14 : rootL 47 true = kTab.getD 14 0 := by decide +kernel
theorem kroot15 : rootL 53 true = kTab.getD 15 0 := by decide +kernel
theorem hroot0 : rootL 2 false = hTab.getD 0 0 := by decide +kernel
theorem hroot1 : rootL 3 false = hTab.getD 1 0 := by decide +kernel
theorem hroot2 : rootL 5 false = hTab.getD 2 0 := by decide +kernel
theorem hroot3 : rootL 7 false = hTab.getD 3 0 := by decide +kernel
theorem hroot4 : rootL 11 false = hTab.getD 4 0 := by decide +kernel
theorem hroot5 : rootL 13 false = hTab.getD 5 0 := by decide +kernel
theorem hroot6 : rootL 17 false = hTab.getD 6 0 := by decide +kernel
theorem hroot7 : rootL 19 false = hTab.getD 7 0 := by decide +kernel
end Go.Proofs.YtkcmohmfejmfoaaGreatDoor

/- The roots of the primes 16 to 31, reckoned: they are the constants. No program is named here. -/
namespace Go.Proofs.YtkcmohmfejmfoaaGreatDoor
set_option maxRecDepth 100000
theorem kroot16 : rootL 59 true = kTab.getD 16 0 := by decide +kernel
theorem kroot17 : rootL 61 true = kTab.getD 17 0 := by decide +kernel
theorem kroot18 : rootL 67 true = kTab.getD 18 0 := by decide +kernel
theorem kroot19 : rootL 71 true = kTab.getD 19 0 := by decide +kernel
theorem kroot20 : rootL 73 true = kTab.getD 20 0 := by decide +kernel
theorem kroot21 : rootL 79 true = kTab.getD 21 0 := by decide +kernel
theorem kroot22 : rootL 83 true = kTab.getD 22 0 := by decide +kernel
theorem kroot23 : rootL 89 true = kTab.getD 23 0 := by decide +kernel
theorem kroot24 : rootL 97 true = kTab.getD 24 0 := by decide +kernel
theorem kroot25 : rootL 101 true = kTab.getD 25 0 := by decide +kernel
theorem kroot26 : rootL 103 true = kTab.getD 26 0 := by decide +kernel
theorem kroot27 : rootL 107 true = kTab.getD 27 0 := by decide +kernel
theorem kroot28 : rootL 109 true = kTab.getD 28 0 := by decide +kernel
theorem kroot29 : rootL 113 true = kTab.getD 29 0 := by decide +kernel
theorem kroot30 : rootL 127 true = kTab.getD 30 0 := by decide +kernel
theorem kroot31 : rootL 131 true = kTab.getD 31 0 := by decide +kernel
end Go.Proofs.YtkcmohmfejmfoaaGreatDoor

/- The roots of the primes 32 to 47, reckoned: they are the constants. No program is named here. -/
namespace Go.Proofs.YtkcmohmfejmfoaaGreatDoor
set_option maxRecDepth 100000
theorem kroot32 : rootL 137 true = kTab.getD 32 0 := by decide +kernel
theorem kroot33 : rootL 139 true = kTab.getD 33 0 := by decide +kernel
theorem kroot34 : rootL 149 true = kTab.getD 34 0 := by decide +kernel
theorem kroot35 : rootL 151 true = kTab.getD 35 0 := by decide +kernel
theorem kroot36 : rootL 157 true = kTab.getD 36 0 := by decide +kernel
theorem kroot37 : rootL 163 true = kTab.getD 37 0 := by decide +kernel
theorem kroot38 : rootL 167 true = kTab.getD 38 0 := by decide +kernel
theorem kroot39 : rootL 173 true = kTab.getD 39 0 := by decide +kernel
theorem kroot40 : rootL 179 true = kTab.getD 40 0 := by decide +kernel
theorem kroot41 : rootL 181 true = kTab.getD 41 0 := by decide +kernel
theorem kroot42 : rootL 191 true = kTab.getD 42 0 := by decide +kernel
theorem kroot43 : rootL 193 true = kTab.getD 43 0 := by decide +kernel
theorem kroot44 : rootL 197 true = kTab.getD 44 0 := by decide +kernel
theorem kroot45 : rootL 199 true = kTab.getD 45 0 := by decide +kernel
theorem kroot46 : rootL 211 true = kTab.getD 46 0 := by decide +kernel
theorem kroot47 : rootL 223 true = kTab.getD 47 0 := by decide +kernel
end Go.Proofs.YtkcmohmfejmfoaaGreatDoor

/- The roots of the primes 48 to 63, reckoned: they are the constants. No program is named here. -/
namespace Go.Proofs.YtkcmohmfejmfoaaGreatDoor
set_option maxRecDepth 100000
theorem kroot48 : rootL 227 true = kTab.getD 48 0 := by decide +kernel
theorem kroot49 : rootL 229 true = kTab.getD 49 0 := by decide +kernel
theorem kroot50 : rootL 233 true = kTab.getD 50 0 := by decide +kernel
theorem kroot51 : rootL 239 true = kTab.getD 51 0 := by decide +kernel
theorem kroot52 : rootL 241 true = kTab.getD 52 0 := by decide +kernel
theorem kroot53 : rootL 251 true = kTab.getD 53 0 := by decide +kernel
theorem kroot54 : rootL 257 true = kTab.getD 54 0 := by decide +kernel
theorem kroot55 : rootL 263 true = kTab.getD 55 0 := by decide +kernel
theorem kroot56 : rootL 269 true = kTab.getD 56 0 := by decide +kernel
theorem kroot57 : rootL 271 true = kTab.getD 57 0 := by decide +kernel
theorem kroot58 : rootL 277 true = kTab.getD 58 0 := by decide +kernel
theorem kroot59 : rootL 281 true = kTab.getD 59 0 := by decide +kernel
theorem kroot60 : rootL 283 true = kTab.getD 60 0 := by decide +kernel
theorem kroot61 : rootL 293 true = kTab.getD 61 0 := by decide +kernel
theorem kroot62 : rootL 307 true = kTab.getD 62 0 := by decide +kernel
theorem kroot63 : rootL 311 true = kTab.getD 63 0 := by decide +kernel
end Go.Proofs.YtkcmohmfejmfoaaGreatDoor

/- All the roots. No program is named here. -/
namespace Go.Proofs.YtkcmohmfejmfoaaGreatDoor
set_option maxRecDepth 100000
theorem kroots (i : Nat) (h : i < 64) : rootL (primes.getD i 0) true = kTab.getD i 0 := by
  match i, h with
  | 0, _ => exact kroot0
  | 1, _ => exact kroot1
  | 2, _ => exact kroot2
  | 3, _ => exact kroot3
  | 4, _ => exact kroot4
  | 5, _ => exact kroot5
  | 6, _ => exact kroot6
  | 7, _ => exact kroot7
  | 8, _ => exact kroot8
  | 9, _ => exact kroot9
  | 10, _ => exact kroot10
  | 11, _ => exact kroot11
  | 12, _ => exact kroot12
  | 13, _ => exact kroot13
  | 14, _ => exact kroot14
  | 15, _ => exact kroot15
  | 16, _ => exact kroot16
  | 17, _ => exact kroot17
  | 18, _ => exact kroot18
  | 19, _ => exact kroot19
  | 20, _ => exact kroot20
  | 21, _ => exact kroot21
  | 22, _ => exact kroot22
  | 23, _ => exact kroot23
  | 24, _ => exact kroot24
  | 25, _ => exact kroot25
  | 26, _ => exact kroot26
  | 27, _ => exact kroot27
  | 28, _ => exact kroot28
  | 29, _ => exact kroot29
  | 30, _ => exact kroot30
  | 31, _ => exact kroot31
  | 32, _ => exact kroot32
  | 33, _ => exact kroot33
  | 34, _ => exact kroot34
  | 35, _ => exact kroot35
  | 36, _ => exact kroot36
  | 37, _ => exact kroot37
  | 38, _ => exact kroot38
  | 39, _ => exact kroot39
  | 40, _ => exact kroot40
  | 41, _ => exact kroot41
  | 42, _ => exact kroot42
  | 43, _ => exact kroot43
  | 44, _ => exact kroot44
  | 45, _ => exact kroot45
  | 46, _ => exact kroot46
  | 47, _ => exact kroot47
  | 48, _ => exact kroot48
  | 49, _ => exact kroot49
  | 50, _ => exact kroot50
  | 51, _ => exact kroot51
  | 52, _ => exact kroot52
  | 53, _ => exact kroot53
  | 54, _ => exact kroot54
  | 55, _ => exact kroot55
  | 56, _ => exact kroot56
  | 57, _ => exact kroot57
  | 58, _ => exact kroot58
  | 59, _ => exact kroot59
  | 60, _ => exact kroot60
  | 61, _ => exact kroot61
  | 62, _ => exact kroot62
  | 63, _ => exact kroot63
  | n + 64, h => omega
theorem hroots (i : Nat) (h : i < 8) : rootL (primes.getD i 0) false = hTab.getD i 0 := by
  match i, h with
  | 0, _ => exact hroot0
  | 1, _ => exact hroot1
  | 2, _ => exact hroot2
  | 3, _ => exact hroot3
  | 4, _ => exact hroot4
  | 5, _ => exact hroot5
  | 6, _ => exact hroot6
  | 7, _ => exact hroot7
  | n + 8, h => omega
end Go.Proofs.YtkcmohmfejmfoaaGreatDoor

/- The contract of the document's times. -/
namespace Go.Proofs.YtkcmohmfejmfoaaGreatDoor
open Go.RowKit
set_option linter.unusedVariables false

def U64s (l : List Int) : Prop := ∀ z ∈ l, 0 ≤ z ∧ z ≤ 18446744073709551615
theorem u64_at {l : List Int} (h : U64s l) (i : Nat) : 0 ≤ l.getD i 0 ∧ l.getD i 0 ≤ 18446744073709551615 := by
  by_cases hi : i < l.length
  · have := h l[i] (List.getElem_mem hi)
    simpa [List.getD, hi] using this
  · simp [List.getD, List.getElem?_eq_none (by omega : l.length ≤ i)]
theorem u64_set {l : List Int} (h : U64s l) (i : Nat) (z : Int) (h0 : 0 ≤ z) (h1 : z ≤ 18446744073709551615) : U64s (l.set i z) := by
  intro y hy
  rcases List.mem_or_eq_of_mem_set hy with hm | rfl
  · exact h y hm
  · exact ⟨h0, h1⟩
theorem u64_rep (n : Nat) : U64s (List.replicate n 0) := by
  intro z hz
  rw [List.mem_replicate] at hz
  omega
theorem mulCol_length (out : List Int) (x : Int) (b : List Int) (i : Nat) : ∀ k, (mulCol out x b i k).length = out.length
  | 0 => rfl
  | k + 1 => by simp [mulCol, mulCol_length out x b i k]
theorem mulRow_length (a b : List Int) : ∀ i, (mulRow a b i).length = a.length + b.length + 1
  | 0 => by simp [mulRow]
  | i + 1 => by rw [mulRow, mulCol_length, mulRow_length a b i]
theorem carry_length (o : List Int) : ∀ i, (carry o i).length = o.length
  | 0 => rfl
  | i + 1 => by simp [carry, carry_length o i]
theorem mulCol_u {out : List Int} (h : U64s out) (x : Int) (b : List Int) (i : Nat) : ∀ k, U64s (mulCol out x b i k)
  | 0 => h
  | k + 1 => u64_set (mulCol_u h x b i k) _ _ (by omega) (by omega)
theorem mulRow_u (a b : List Int) : ∀ i, U64s (mulRow a b i)
  | 0 => u64_rep _
  | i + 1 => mulCol_u (mulRow_u a b i) _ _ _ _
theorem carry_u {o : List Int} (h : U64s o) : ∀ i, U64s (carry o i)
  | 0 => h
  | i + 1 => u64_set (u64_set (carry_u h i) _ _ (by omega) (by omega)) _ _ (by omega) (by omega)
theorem timesL_length (a b : List Int) : (timesL a b).length = a.length + b.length + 1 := by rw [timesL, carry_length, mulRow_length]
theorem timesL_u (a b : List Int) : U64s (timesL a b) := carry_u (mulRow_u a b _) _

theorem wrap_mul_add (x t : Int) : IntKind.u64.wrap (x + IntKind.u64.wrap t) = (x + t) % 18446744073709551616 := by
  simp only [IntKind.wrap_u64]
  omega
theorem wrap_add64 (x : Int) : IntKind.u64.wrap x = x % 18446744073709551616 := IntKind.wrap_u64 x
theorem infoU64 : (Tryz.prog.info? 71).map (fun i => (i.zero, i.size, i.bytes)) = some (some (.int .u64 0), 1, 8) := by kernel_rfl

def TimesPost (w : World) (a b : List Int) (e : Ending) (w' : World) : Prop :=
  e = .returned (.slice (some ⟨w.heap.size, 0, none⟩) (a.length + b.length + 1) (a.length + b.length + 1)) ∧ Row .u64 w' 71 w.heap.size (timesL a b) ∧ Below w.heap.size w w' ∧ w'.heap.size = w.heap.size + 1

set_option maxRecDepth 100000 in
set_option maxHeartbeats 4000000 in
theorem times_any (ga gb na nb ca cb : Nat) (a b : List Int) (w : World) (hna : a.length = na) (hnb : b.length = nb) (ha1 : na ≤ 100) (hb1 : nb ≤ 100) (hua : U64s a) (hub : U64s b) (hsa : Seg .u64 w ga 0 a) (hsb : Seg .u64 w gb 0 b) (hga : ga < w.heap.size) (hgb : gb < w.heap.size) :
    Calls Tryz.prog 74 #[.slice (some ⟨ga, 0, none⟩) na ca, .slice (some ⟨gb, 0, none⟩) nb cb] w (TimesPost w a b) := by
  obtain ⟨i0, hi0, hz0, hz1, hz2⟩ := info_parts infoU64
  have HNA := Lib.hid hna
  have HNB := Lib.hid hnb
  have HUA := Lib.hid hua
  have HUB := Lib.hid hub
  have HSA := Lib.hid hsa
  have HSB := Lib.hid hsb
  clear hna hnb hua hub hsa hsb
  go_enter Tryz.func74, Tryz.ntmps74
  go_wp2_with (first
    | (at_make
       refine wpList_make_ints _ rfl (.tmp 14) (.tmp 14) 70 rfl 71 i0 .u64 Tryz.underlying70 hi0 hz0 hz1 .i64 .i64 _ _ (na + nb + 1) rfl rfl (by push_cast; omega) (by push_cast; omega) (by rw [hz2]; omega) (by simp only [maxLen]; omega) ?_
       intro w1 hr1 hb1 hs1
       have HR1 := Lib.hid hr1
       have HB1 := Lib.hid hb1
       have HS1 := Lib.hid hs1
       clear hr1 hb1 hs1))
  go_loopw [6] (fun i wx => ∃ k : Nat, k ≤ na ∧ i = .int .i64 k ∧ Row .u64 wx 71 w.heap.size (mulRow a b k) ∧ Below w.heap.size w wx ∧ wx.heap.size = w.heap.size + 1) (fun i _ => na - (intOf i).toNat)
  case atStart => exact ⟨0, by omega, rfl, by rw [mulRow, HNA.out, HNB.out]; exact HR1.out, HB1.out, HS1.out⟩
  case round =>
    obtain ⟨i, hi, rfl, hr, hb, hs⟩ := hrel
    have HR := Lib.hid hr
    have HB := Lib.hid hb
    have HS := Lib.hid hs
    clear hr hb hs HR1 HB1 HS1
    by_cases hlt : i < na
    · have hai : ((i : Nat) : Int) < (na : Int) := by omega
      go_wp2_with fail
      go_loopw [7] (fun k wx => ∃ q : Nat, q ≤ nb ∧ k = .int .i64 q ∧ Row .u64 wx 71 w.heap.size (mulCol (mulRow a b i) (a.getD i 0) b i q) ∧ Below w.heap.size w wx ∧ wx.heap.size = w.heap.size + 1) (fun k _ => nb - (intOf k).toNat)
      case atStart => exact ⟨0, by omega, rfl, HR.out, HB.out, HS.out⟩
      case round =>
        obtain ⟨q, hq, rfl, hr, hb, hs⟩ := hrel
        clear HR HB HS
        have HR := Lib.hid hr
        have HB := Lib.hid hb
        have HS := Lib.hid hs
        clear hr hb hs
        by_cases hlt2 : q < nb
        · have hml : (mulCol (mulRow a b i) (a.getD i 0) b i q).length = na + nb + 1 := by rw [mulCol_length, mulRow_length, HNA.out, HNB.out]
          have c1 := HR.out.cellD (i + q) (by rw [hml]; omega)
          have f1 := HR.out.frozen (i + q)
          have c2 := (HSA.out.below HB.out hga).cellD i (by rw [HNA.out]; exact hlt)
          have c3 := (HSB.out.below HB.out hgb).cellD q (by rw [HNB.out]; exact hlt2)
          rw [Nat.zero_add] at c2 c3
          have u1 := u64_at (mulCol_u (mulRow_u a b i) (a.getD i 0) b i q) (i + q)
          have u2 := u64_at HUA.out i
          have u3 := u64_at HUB.out q
          have hst : Row .u64 (wr.setCell ⟨w.heap.size, i + q, none⟩ (.int .u64 (((mulCol (mulRow a b i) (a.getD i 0) b i q).getD (i + q) 0 + a.getD i 0 * b.getD q 0) % 18446744073709551616))) 71 w.heap.size (mulCol (mulRow a b i) (a.getD i 0) b i (q + 1)) := HR.out.set (i + q) _
          generalize (mulCol (mulRow a b i) (a.getD i 0) b i q).getD (i + q) 0 = x at *
          generalize b.getD q 0 = z at *
          generalize hya : a.getD i 0 = y at *
          have HST := Lib.hid hst
          have k1 : IntKind.i64.wrap ((i : Int) + (q : Int)) = (i : Int) + (q : Int) := IntWalk.i64_in _ (by omega)
          have k2 : (0 : Int) ≤ (i : Int) + (q : Int) := by omega
          have k3 : (i : Int) + (q : Int) < ((na + nb + 1 : Nat) : Int) := by omega
          have k4 : ((i : Int) + (q : Int)).toNat = i + q := by omega
          have k5 : (q : Int) < (nb : Int) := by omega
          have k6 : (i : Int) + (q : Int) < (na : Int) + (nb : Int) + 1 := by omega
          have HYA := Lib.hid hya
          clear hst hml hya
          go_wp2_with fail
          go_region
          clear k1 k2 k3 k4 k6 c1 c2 c3 f1
          go_wp2_with fail
          go_roundw
          case rel =>
            refine ⟨q + 1, by omega, by go_num, ?_, (HB.out.setCell (Nat.le_refl _) _).drew, by simpa [World.setCell] using HS.out⟩
            have h := HST.out.drew
            rw [wrap_mul_add]
            exact h
          case measure => simp [intOf]; omega
        · obtain rfl : q = nb := by omega
          have k5 : ¬ (q : Int) < (q : Int) := by omega
          have hnx : mulCol (mulRow a b i) (a.getD i 0) b i q = mulRow a b (i + 1) := by rw [mulRow, HNB.out]
          have hr := HR.out
          rw [hnx] at hr
          have HR' := Lib.hid hr
          clear hr hnx
          go_wp2_with fail
          go_roundw
          case rel => exact ⟨i + 1, by omega, by go_num, HR'.out, HB.out, HS.out⟩
          case measure => simp [intOf]; omega
    · obtain rfl : i = na := by omega
      have hr := HR.out
      have HR' : Hid (Row .u64 wr 71 w.heap.size (carry (mulRow a b i) 0)) := Lib.hid hr
      clear hr
      go_wp2_with fail
      go_loopw [8] (fun k wx => ∃ q : Nat, q ≤ i + nb ∧ k = .int .i64 q ∧ Row .u64 wx 71 w.heap.size (carry (mulRow a b i) q) ∧ Below w.heap.size w wx ∧ wx.heap.size = w.heap.size + 1) (fun k _ => i + nb - (intOf k).toNat)
      case atStart => exact ⟨0, by omega, rfl, HR'.out, HB.out, HS.out⟩
      case round =>
        obtain ⟨q, hq, rfl, hr, hb, hs⟩ := hrel
        clear HR HB HS HR'
        have HR := Lib.hid hr
        have HB := Lib.hid hb
        have HS := Lib.hid hs
        clear hr hb hs
        by_cases hlt2 : q < i + nb
        · have hml : (carry (mulRow a b i) q).length = i + nb + 1 := by rw [carry_length, mulRow_length, HNA.out, HNB.out]
          have c1 := HR.out.cellD (q + 1) (by rw [hml]; omega)
          have c2 := HR.out.cellD q (by rw [hml]; omega)
          have f1 := HR.out.frozen (q + 1)
          have f2 := HR.out.frozen q
          have u1 := u64_at (carry_u (mulRow_u a b i) q) (q + 1)
          have u2 := u64_at (carry_u (mulRow_u a b i) q) q
          have hst : Row .u64 ((wr.setCell ⟨w.heap.size, q + 1, none⟩ (.int .u64 (((carry (mulRow a b i) q).getD (q + 1) 0 + (carry (mulRow a b i) q).getD q 0 / 65536) % 18446744073709551616))).setCell ⟨w.heap.size, q, none⟩ (.int .u64 ((carry (mulRow a b i) q).getD q 0 % 65536))) 71 w.heap.size (carry (mulRow a b i) (q + 1)) := (HR.out.set (q + 1) _).set q _
          generalize (carry (mulRow a b i) q).getD (q + 1) 0 = x at *
          generalize (carry (mulRow a b i) q).getD q 0 = y at *
          have HST := Lib.hid hst
          have k1 : IntKind.i64.wrap ((q : Int) + 1) = (q : Int) + 1 := IntWalk.i64_in _ (by omega)
          have k2 : (0 : Int) ≤ (q : Int) + 1 := by omega
          have k3 : (q : Int) + 1 < ((i + nb + 1 : Nat) : Int) := by omega
          have k4 : ((q : Int) + 1).toNat = q + 1 := by omega
          have k5 : (q : Int) + 1 < (i : Int) + (nb : Int) + 1 := by omega
          have k6 : (q : Int) < (i : Int) + (nb : Int) + 1 := by omega
          have k7 : (q : Int) < (i : Int) + (nb : Int) := by omega
          clear hst hml
          go_wp2_with fail
          go_region
          clear k1 k2 k3 k4 k5 c1 f1
          go_wp2_with fail
          go_roundw
          case rel =>
            refine ⟨q + 1, by omega, by go_num, ?_, ?_, ?_⟩
            · have h := HST.out
              rw [wrap_add64]
              exact h
            · exact ((HB.out.setCell (Nat.le_refl _) _).drew).setCell (Nat.le_refl _) _
            · simpa [World.setCell] using HS.out
          case measure => simp [intOf]; omega
        · obtain rfl : q = i + nb := by omega
          have k7 : ¬ ((i + nb : Nat) : Int) + 1 < (i : Int) + (nb : Int) + 1 := by omega
          have hfin : carry (mulRow a b i) (i + nb) = timesL a b := by rw [timesL, HNA.out, HNB.out]
          have hr := HR.out
          rw [hfin] at hr
          have HR2 := Lib.hid hr
          clear hr hfin
          go_wp2_with fail
          go_ret
          exact ⟨by rw [HNA.out, HNB.out]; rfl, HR2.out, HB.out, HS.out⟩
end Go.Proofs.YtkcmohmfejmfoaaGreatDoor

/- The contract of the document's below. -/
namespace Go.Proofs.YtkcmohmfejmfoaaGreatDoor
open Go.RowKit
set_option linter.unusedVariables false

theorem digs_u (y : Int) (h0 : 0 ≤ y) (h1 : y ≤ 68719476735) : U64s (digs y) := by
  intro z hz
  simp only [digs, List.mem_cons, List.not_mem_nil, or_false] at hz
  omega
theorem digs_row (w : World) (y : Int) : Row .u64 (w.alloc (.cells #[.int .u64 (y % 65536), .int .u64 (y / 65536 % 65536), .int .u64 (y / 4294967296)] 71)) 71 w.heap.size (digs y) := heap_alloc_new w _

/-- What stands behind the comparison's loop: the same for squares and cubes. -/
theorem cmp_next (z l : List Int) (m : Nat) (h : z.getD m 0 = l.getD m 0) : cmpL z l (m + 1) = cmpL z l m := by
  have : (z.getD m 0 != l.getD m 0) = false := by rw [h]; simp
  simp only [cmpL, this, Bool.false_eq_true, if_false]
theorem cmp_stop (z l : List Int) (m : Nat) (h : z.getD m 0 ≠ l.getD m 0) : cmpL z l (m + 1) = decide (z.getD m 0 < l.getD m 0) := by
  have : (z.getD m 0 != l.getD m 0) = true := by rw [bne_iff_ne]; exact h
  simp only [cmpL, this, if_true]

def BelowPost (w : World) (v : Bool) (e : Ending) (w' : World) : Prop := e = .returned (.bool v) ∧ Below w.heap.size w w'

set_option maxRecDepth 100000 in
set_option maxHeartbeats 2000000 in
theorem below_sq (y p : Int) (w : World) (h0 : 0 ≤ y) (h1 : y ≤ 68719476735) (hp : 0 ≤ p) (hp1 : p ≤ 1000) :
    Calls Tryz.prog 51 #[.int .u64 y, .int .u64 p, .bool false] w (BelowPost w (belowL y p false)) := by
  obtain ⟨i0, hi0, hz0, hz1, hz2⟩ := info_parts infoU64
  have ht : ∀ W, Row .u64 W 71 w.heap.size (digs y) → Calls Tryz.prog 74 #[.slice (some ⟨w.heap.size, 0, none⟩) 3 3, .slice (some ⟨w.heap.size, 0, none⟩) 3 3] W
      (fun e w' => e = .returned (.slice (some ⟨W.heap.size, 0, none⟩) 7 7) ∧ Row .u64 w' 71 W.heap.size (timesL (digs y) (digs y)) ∧ Below W.heap.size W w' ∧ w'.heap.size = W.heap.size + 1) := fun W hW =>
    times_any w.heap.size w.heap.size 3 3 3 3 (digs y) (digs y) W rfl rfl (by omega) (by omega) (digs_u y h0 h1) (digs_u y h0 h1) hW.seg hW.seg hW.lt hW.lt
  have hres : belowL y p false = cmpL (timesL (digs y) (digs y)) ((List.replicate 7 0).set 4 p) 7 := rfl
  have HD := Lib.hid (digs_row w y)
  have hl : (timesL (digs y) (digs y)).length = 7 := by exact timesL_length _ _
  have hu := timesL_u (digs y) (digs y)
  have hll : ((List.replicate 7 (0 : Int)).set 4 p).length = 7 := by simp
  have hlu : U64s ((List.replicate 7 (0 : Int)).set 4 p) := u64_set (u64_rep 7) 4 p hp (by omega)
  have HT := Lib.hid ht
  have HRES := Lib.hid hres
  have HL := Lib.hid hl
  have HU := Lib.hid hu
  have HLL := Lib.hid hll
  have HLU := Lib.hid hlu
  clear ht hres hl hu hll hlu
  go_enter Tryz.func51, Tryz.ntmps51
  go_wp2_with fail
  refine (HT.out _ HD.out).mono ?_
  rintro _ w1 ⟨rfl, hr1, hb1, hs1⟩
  have HD1 : Hid (Row .u64 w1 71 w.heap.size (digs y)) := Lib.hid (HD.out.below hb1 HD.out.lt)
  simp only [World.size_alloc] at hr1
  have HR1 := Lib.hid hr1
  have HB1 : Hid (Below w.heap.size w w1) := Lib.hid (((Below.refl _ _).alloc (Nat.le_refl _) _).trans (hb1.mono (by simp)))
  clear hr1 hb1 hs1
  have hsz : (w.heap.size + 1) < w1.heap.size := HR1.out.lt
  go_wp2_with (first
    | (at_make
       refine wpList_make_ints _ rfl (.tmp 28) (.tmp 28) 70 rfl 71 i0 .u64 Tryz.underlying70 hi0 hz0 hz1 .i64 .i64 7 7 7 rfl rfl rfl rfl (by rw [hz2]; omega) (by simp only [maxLen]; omega) ?_
       intro w3 hr3 hb3 hs3
       obtain ⟨z0, hc3⟩ := hr3.has 4 (by simp)
       have hf3 := hr3.frozen 4
       have HR3 := Lib.hid hr3
       have HB3 := Lib.hid hb3
       clear hr3 hb3 hs3))
  have hz4 : Row .u64 (w3.setCell ⟨w1.heap.size, 4, none⟩ (.int .u64 p)) 71 (w.heap.size + 1) (timesL (digs y) (digs y)) := by
    have h := HR1.out
    
    exact (h.below HB3.out h.lt).far (by have := h.lt; simp; omega) _
  have hl4 : Row .u64 (w3.setCell ⟨w1.heap.size, 4, none⟩ (.int .u64 p)) 71 w1.heap.size ((List.replicate 7 (0 : Int)).set 4 p) := HR3.out.set 4 p
  have hb4 : Below w.heap.size w (w3.setCell ⟨w1.heap.size, 4, none⟩ (.int .u64 p)) := (HB1.out.trans (HB3.out.mono HB1.out.size)).setCell HB1.out.size _
  obtain ⟨w4, hw4⟩ : ∃ w4, w4 = w3.setCell ⟨w1.heap.size, 4, none⟩ (.int .u64 p) := ⟨_, rfl⟩
  rw [← hw4] at hz4 hl4 hb4 ⊢
  have HZ4 := Lib.hid hz4
  have HL4 := Lib.hid hl4
  have HB4 := Lib.hid hb4
  clear hz4 hl4 hb4 hw4 hc3 hf3
  generalize hzz : timesL (digs y) (digs y) = z at *
  generalize hlim : ((List.replicate 7 (0 : Int)).set 4 p) = lim at *
  clear hzz hlim
  go_loopw [11] (fun i wx => ∃ m q : Nat, m ≤ 7 ∧ i = .int .i64 ((m : Int) - 1) ∧ cmpL z lim 7 = cmpL z lim m ∧ wx = w4.drewN q) (fun i _ => (intOf i + 1).toNat)
  case atStart => exact ⟨7, 0, by omega, rfl, rfl, rfl⟩
  case round =>
    obtain ⟨m, q, hm, rfl, hcmp, rfl⟩ := hrel
    have HCMP := Lib.hid hcmp
    clear hcmp
    by_cases hm0 : m = 0
    · subst hm0
      go_wp2_with fail
      go_ret
      refine ⟨?_, below_drewN HB4.out q⟩
      rw [HRES.out, HCMP.out]
      rfl
    · obtain ⟨k, rfl⟩ : ∃ k, m = k + 1 := ⟨m - 1, by omega⟩
      have c1 := HZ4.out.cellD k (by rw [HL.out]; omega)
      have c2 := HL4.out.cellD k (by rw [HLL.out]; omega)
      have u1 := u64_at HU.out k
      have u2 := u64_at HLU.out k
      have hn := cmp_next z lim k
      have hs := cmp_stop z lim k
      rw [show ((k + 1 : Nat) : Int) - 1 = (k : Int) by omega]
      generalize z.getD k 0 = x at *
      generalize lim.getD k 0 = v at *
      have HN := Lib.hid hn
      have HS := Lib.hid hs
      have kb : (k : Int) < 7 := by omega
      clear hn hs
      by_cases hxv : x = v
      · subst hxv
        go_wp2_with fail
        go_quiet (fail)
        go_wp2_with fail
        refine ⟨⟨k, q + nq, by omega, rfl, ?_, rfl⟩, by simp [intOf]⟩
        rw [HCMP.out, HN.out (by trivial)]
      · have hne : (x != v) = true := by rw [bne_iff_ne]; exact hxv
        have HXV := Lib.hid hxv
        clear hxv
        go_wp2_with fail
        go_quiet (fail)
        go_wp2_with fail
        go_quiet (fail)
        go_wp2_with fail
        go_ret
        refine ⟨?_, below_drewN (below_drewN (below_drewN HB4.out _) _) _⟩
        rw [HRES.out, HCMP.out, HS.out HXV.out]
        rfl

set_option maxRecDepth 100000 in
set_option maxHeartbeats 2000000 in
theorem below_cube (y p : Int) (w : World) (h0 : 0 ≤ y) (h1 : y ≤ 68719476735) (hp : 0 ≤ p) (hp1 : p ≤ 1000) :
    Calls Tryz.prog 51 #[.int .u64 y, .int .u64 p, .bool true] w (BelowPost w (belowL y p true)) := by
  obtain ⟨i0, hi0, hz0, hz1, hz2⟩ := info_parts infoU64
  have ht : ∀ W, Row .u64 W 71 w.heap.size (digs y) → Calls Tryz.prog 74 #[.slice (some ⟨w.heap.size, 0, none⟩) 3 3, .slice (some ⟨w.heap.size, 0, none⟩) 3 3] W
      (fun e w' => e = .returned (.slice (some ⟨W.heap.size, 0, none⟩) 7 7) ∧ Row .u64 w' 71 W.heap.size (timesL (digs y) (digs y)) ∧ Below W.heap.size W w' ∧ w'.heap.size = W.heap.size + 1) := fun W hW =>
    times_any w.heap.size w.heap.size 3 3 3 3 (digs y) (digs y) W rfl rfl (by omega) (by omega) (digs_u y h0 h1) (digs_u y h0 h1) hW.seg hW.seg hW.lt hW.lt
  have ht2 : ∀ W g, Row .u64 W 71 w.heap.size (digs y) → Row .u64 W 71 g (timesL (digs y) (digs y)) → Calls Tryz.prog 74 #[.slice (some ⟨g, 0, none⟩) 7 7, .slice (some ⟨w.heap.size, 0, none⟩) 3 3] W
      (fun e w' => e = .returned (.slice (some ⟨W.heap.size, 0, none⟩) 11 11) ∧ Row .u64 w' 71 W.heap.size (timesL (timesL (digs y) (digs y)) (digs y)) ∧ Below W.heap.size W w' ∧ w'.heap.size = W.heap.size + 1) := fun W g hW hg => by
    have h := times_any g w.heap.size 7 3 7 3 (timesL (digs y) (digs y)) (digs y) W (timesL_length _ _) rfl (by omega) (by omega) (timesL_u _ _) (digs_u y h0 h1) hg.seg hW.seg hg.lt hW.lt
    unfold TimesPost at h
    rw [timesL_length] at h
    exact h
  have HT2 := Lib.hid ht2
  have hres : belowL y p true = cmpL (timesL (timesL (digs y) (digs y)) (digs y)) ((List.replicate 11 0).set 6 p) 11 := rfl
  have HD := Lib.hid (digs_row w y)
  have hl : (timesL (timesL (digs y) (digs y)) (digs y)).length = 11 := by rw [timesL_length, timesL_length]; rfl
  have hu := timesL_u (timesL (digs y) (digs y)) (digs y)
  have hll : ((List.replicate 11 (0 : Int)).set 6 p).length = 11 := by simp
  have hlu : U64s ((List.replicate 11 (0 : Int)).set 6 p) := u64_set (u64_rep 11) 6 p hp (by omega)
  have HT := Lib.hid ht
  have HRES := Lib.hid hres
  have HL := Lib.hid hl
  have HU := Lib.hid hu
  have HLL := Lib.hid hll
  have HLU := Lib.hid hlu
  clear ht ht2 hres hl hu hll hlu
  go_enter Tryz.func51, Tryz.ntmps51
  go_wp2_with fail
  refine (HT.out _ HD.out).mono ?_
  rintro _ w1 ⟨rfl, hr1, hb1, hs1⟩
  have HD1 : Hid (Row .u64 w1 71 w.heap.size (digs y)) := Lib.hid (HD.out.below hb1 HD.out.lt)
  simp only [World.size_alloc] at hr1
  have HR1 := Lib.hid hr1
  have HB1 : Hid (Below w.heap.size w w1) := Lib.hid (((Below.refl _ _).alloc (Nat.le_refl _) _).trans (hb1.mono (by simp)))
  clear hr1 hb1 hs1
  go_wp2_with fail
  refine (HT2.out _ _ HD1.out HR1.out).mono ?_
  rintro _ w2 ⟨rfl, hr2, hb2, hs2⟩
  have HR2 := Lib.hid hr2
  have HB2 : Hid (Below w.heap.size w w2) := Lib.hid (HB1.out.trans (hb2.mono HB1.out.size))
  have hsz : w1.heap.size < w2.heap.size := by omega
  clear hr2 hb2 hs2
  go_wp2_with (first
    | (at_make
       refine wpList_make_ints _ rfl (.tmp 28) (.tmp 28) 70 rfl 71 i0 .u64 Tryz.underlying70 hi0 hz0 hz1 .i64 .i64 11 11 11 rfl rfl rfl rfl (by rw [hz2]; omega) (by simp only [maxLen]; omega) ?_
       intro w3 hr3 hb3 hs3
       obtain ⟨z0, hc3⟩ := hr3.has 6 (by simp)
       have hf3 := hr3.frozen 6
       have HR3 := Lib.hid hr3
       have HB3 := Lib.hid hb3
       clear hr3 hb3 hs3))
  have hz4 : Row .u64 (w3.setCell ⟨w2.heap.size, 6, none⟩ (.int .u64 p)) 71 w1.heap.size (timesL (timesL (digs y) (digs y)) (digs y)) := by
    have h := HR2.out
    
    exact (h.below HB3.out h.lt).far (by have := h.lt; simp; omega) _
  have hl4 : Row .u64 (w3.setCell ⟨w2.heap.size, 6, none⟩ (.int .u64 p)) 71 w2.heap.size ((List.replicate 11 (0 : Int)).set 6 p) := HR3.out.set 6 p
  have hb4 : Below w.heap.size w (w3.setCell ⟨w2.heap.size, 6, none⟩ (.int .u64 p)) := (HB2.out.trans (HB3.out.mono HB2.out.size)).setCell HB2.out.size _
  obtain ⟨w4, hw4⟩ : ∃ w4, w4 = w3.setCell ⟨w2.heap.size, 6, none⟩ (.int .u64 p) := ⟨_, rfl⟩
  rw [← hw4] at hz4 hl4 hb4 ⊢
  have HZ4 := Lib.hid hz4
  have HL4 := Lib.hid hl4
  have HB4 := Lib.hid hb4
  clear hz4 hl4 hb4 hw4 hc3 hf3
  generalize hzz : timesL (timesL (digs y) (digs y)) (digs y) = z at *
  generalize hlim : ((List.replicate 11 (0 : Int)).set 6 p) = lim at *
  clear hzz hlim
  go_loopw [11] (fun i wx => ∃ m q : Nat, m ≤ 11 ∧ i = .int .i64 ((m : Int) - 1) ∧ cmpL z lim 11 = cmpL z lim m ∧ wx = w4.drewN q) (fun i _ => (intOf i + 1).toNat)
  case atStart => exact ⟨11, 0, by omega, rfl, rfl, rfl⟩
  case round =>
    obtain ⟨m, q, hm, rfl, hcmp, rfl⟩ := hrel
    have HCMP := Lib.hid hcmp
    clear hcmp
    by_cases hm0 : m = 0
    · subst hm0
      go_wp2_with fail
      go_ret
      refine ⟨?_, below_drewN HB4.out q⟩
      rw [HRES.out, HCMP.out]
      rfl
    · obtain ⟨k, rfl⟩ : ∃ k, m = k + 1 := ⟨m - 1, by omega⟩
      have c1 := HZ4.out.cellD k (by rw [HL.out]; omega)
      have c2 := HL4.out.cellD k (by rw [HLL.out]; omega)
      have u1 := u64_at HU.out k
      have u2 := u64_at HLU.out k
      have hn := cmp_next z lim k
      have hs := cmp_stop z lim k
      rw [show ((k + 1 : Nat) : Int) - 1 = (k : Int) by omega]
      generalize z.getD k 0 = x at *
      generalize lim.getD k 0 = v at *
      have HN := Lib.hid hn
      have HS := Lib.hid hs
      have kb : (k : Int) < 11 := by omega
      clear hn hs
      by_cases hxv : x = v
      · subst hxv
        go_wp2_with fail
        go_quiet (fail)
        go_wp2_with fail
        refine ⟨⟨k, q + nq, by omega, rfl, ?_, rfl⟩, by simp [intOf]⟩
        rw [HCMP.out, HN.out (by trivial)]
      · have hne : (x != v) = true := by rw [bne_iff_ne]; exact hxv
        have HXV := Lib.hid hxv
        clear hxv
        go_wp2_with fail
        go_quiet (fail)
        go_wp2_with fail
        go_quiet (fail)
        go_wp2_with fail
        go_ret
        refine ⟨?_, below_drewN (below_drewN (below_drewN HB4.out _) _) _⟩
        rw [HRES.out, HCMP.out, HS.out HXV.out]
        rfl
end Go.Proofs.YtkcmohmfejmfoaaGreatDoor

/- The contract of the document's root. -/
namespace Go.Proofs.YtkcmohmfejmfoaaGreatDoor
open Go.RowKit
set_option linter.unusedVariables false

theorem below_any (y p : Int) (cube : Bool) (w : World) (h0 : 0 ≤ y) (h1 : y ≤ 68719476735) (hp : 0 ≤ p) (hp1 : p ≤ 1000) :
    Calls Tryz.prog 51 #[.int .u64 y, .int .u64 p, .bool cube] w (BelowPost w (belowL y p cube)) := by
  cases cube
  · exact below_sq y p w h0 h1 hp hp1
  · exact below_cube y p w h0 h1 hp hp1

/-- The bit of the n-th round; nought behind the last. -/
def bitAt (n : Nat) : Int := if n < 36 then 2 ^ (35 - n) else 0
theorem bitAt_half (n : Nat) (h : n < 36) : bitAt n / 2 = bitAt (n + 1) := by
  unfold bitAt
  rw [if_pos h]
  by_cases h2 : n + 1 < 36
  · rw [if_pos h2, show 35 - n = (35 - (n + 1)) + 1 by omega, Int.pow_succ]
    omega
  · have : n = 35 := by omega
    subst this
    rfl
theorem bitAt_bd (n : Nat) : 0 ≤ bitAt n ∧ bitAt n ≤ 34359738368 := by
  unfold bitAt
  split
  · have h : n = 0 ∨ n = 1 ∨ n = 2 ∨ n = 3 ∨ n = 4 ∨ n = 5 ∨ n = 6 ∨ n = 7 ∨ n = 8 ∨ n = 9 ∨ n = 10 ∨ n = 11 ∨ n = 12 ∨ n = 13 ∨ n = 14 ∨ n = 15 ∨ n = 16 ∨ n = 17 ∨ n = 18 ∨ n = 19 ∨ n = 20 ∨ n = 21 ∨ n = 22 ∨ n = 23 ∨ n = 24 ∨ n = 25 ∨ n = 26 ∨ n = 27 ∨ n = 28 ∨ n = 29 ∨ n = 30 ∨ n = 31 ∨ n = 32 ∨ n = 33 ∨ n = 34 ∨ n = 35 := by omega
    rcases h with rfl | rfl | rfl | rfl | rfl | rfl | rfl | rfl | rfl | rfl | rfl | rfl | rfl | rfl | rfl | rfl | rfl | rfl | rfl | rfl | rfl | rfl | rfl | rfl | rfl | rfl | rfl | rfl | rfl | rfl | rfl | rfl | rfl | rfl | rfl | rfl <;> decide
  · omega
theorem bitAt_pos (n : Nat) (h : n < 36) : 0 < bitAt n := by
  unfold bitAt
  rw [if_pos h]
  exact Int.pow_pos (by omega)
theorem rootAt_bd (p : Int) (cube : Bool) : ∀ n, n ≤ 36 → 0 ≤ rootAt p cube n ∧ rootAt p cube n + 2 ^ (36 - n) ≤ 68719476736
  | 0, _ => by simp [rootAt]
  | n + 1, h => by
    have ih := rootAt_bd p cube n (by omega)
    have hp : (2 : Int) ^ (36 - n) = 2 * 2 ^ (35 - n) := by rw [show 36 - n = (35 - n) + 1 by omega, Int.pow_succ]; omega
    have h0 : (0 : Int) < 2 ^ (35 - n) := Int.pow_pos (by omega)
    rw [hp] at ih
    rw [show 36 - (n + 1) = 35 - n by omega]
    simp only [rootAt]
    split <;> omega
theorem rootAt_next (p : Int) (cube : Bool) (n : Nat) (h : n < 36) : rootAt p cube (n + 1) = if belowL (rootAt p cube n + bitAt n) p cube then rootAt p cube n + bitAt n else rootAt p cube n := by
  have : bitAt n = 2 ^ (35 - n) := by unfold bitAt; rw [if_pos h]
  rw [this]
  rfl
theorem rootAt_y (p : Int) (cube : Bool) (n : Nat) (h : n < 36) : 0 ≤ rootAt p cube n + bitAt n ∧ rootAt p cube n + bitAt n ≤ 68719476735 := by
  have h1 := rootAt_bd p cube n (by omega)
  have hp : (2 : Int) ^ (36 - n) = 2 * 2 ^ (35 - n) := by rw [show 36 - n = (35 - n) + 1 by omega, Int.pow_succ]; omega
  have h0 : (0 : Int) < 2 ^ (35 - n) := Int.pow_pos (by omega)
  have : bitAt n = 2 ^ (35 - n) := by unfold bitAt; rw [if_pos h]
  omega

def RootPost (w : World) (v : Int) (e : Ending) (w' : World) : Prop := e = .returned (.int .u32 v) ∧ Below w.heap.size w w'
set_option maxRecDepth 100000 in
set_option maxHeartbeats 2000000 in
theorem root_any (p : Int) (cube : Bool) (w : World) (hp : 0 ≤ p) (hp1 : p ≤ 1000) :
    Calls Tryz.prog 31 #[.int .u64 p, .bool cube] w (RootPost w (rootL p cube)) := by
  go_enter Tryz.func31, Tryz.ntmps31
  go_wp2_with fail
  go_loopw [5, 6] (fun x b wx => ∃ n : Nat, n ≤ 36 ∧ x = .int .u64 (rootAt p cube n) ∧ b = .int .u64 (bitAt n) ∧ Below w.heap.size w wx) (fun _ b _ => (intOf b).toNat)
  case atStart => exact ⟨0, by omega, rfl, rfl, Below.refl _ _⟩
  case round =>
    obtain ⟨n, hn, rfl, rfl, hb⟩ := hrel
    have HB := Lib.hid hb
    clear hb
    have r1 := rootAt_bd p cube n hn
    have r1' : rootAt p cube n ≤ 68719476736 := by
      have : (0 : Int) < 2 ^ (36 - n) := Int.pow_pos (by omega)
      omega
    have r0 := r1.1
    clear r1
    by_cases hlt : n < 36
    · have ry := rootAt_y p cube n hlt
      have hpos := bitAt_pos n hlt
      have hhalf := bitAt_half n hlt
      have hnext := rootAt_next p cube n hlt
      have bb := bitAt_bd n
      have bb2 := bitAt_bd (n + 1)
      have hc : ∀ W, Calls Tryz.prog 51 #[.int .u64 (rootAt p cube n + bitAt n), .int .u64 p, .bool cube] W (BelowPost W (belowL (rootAt p cube n + bitAt n) p cube)) := fun W => below_any _ p cube W ry.1 ry.2 hp hp1
      generalize belowL (rootAt p cube n + bitAt n) p cube = v at *
      generalize hbn : bitAt n = bt at *
      generalize hrn : rootAt p cube n = rt at *
      have HC := Lib.hid hc
      have HH := Lib.hid hhalf
      have HN := Lib.hid hnext
      clear hc hhalf hnext hbn hrn
      cases v
      · go_wp2_with (first
          | (go_at_call 51
             (with_reducible refine (HC.out _).mono ?_)
             rintro _ w1 ⟨rfl, hb1⟩
             have HB1 := Lib.hid hb1
             clear hb1))
        go_roundw
        case rel => exact ⟨n + 1, by omega, by rw [HN.out]; rfl, by rw [HH.out], HB.out.trans (HB1.out.mono HB.out.size)⟩
        case measure => simp [intOf]; omega
      · go_wp2_with (first
          | (go_at_call 51
             (with_reducible refine (HC.out _).mono ?_)
             rintro _ w1 ⟨rfl, hb1⟩
             have HB1 := Lib.hid hb1
             clear hb1))
        go_roundw
        case rel => exact ⟨n + 1, by omega, by rw [HN.out]; rfl, by rw [HH.out], HB.out.trans (HB1.out.mono HB.out.size)⟩
        case measure => simp [intOf]; omega
    · obtain rfl : n = 36 := by omega
      have hz : bitAt 36 = 0 := rfl
      rw [hz]
      have hfin : rootL p cube = rootAt p cube 36 % 4294967296 := rfl
      generalize rootAt p cube 36 = rt at *
      have HFIN := Lib.hid hfin
      clear hz hfin
      go_wp2_with fail
      go_ret
      exact ⟨by rw [HFIN.out]; rfl, HB.out⟩
end Go.Proofs.YtkcmohmfejmfoaaGreatDoor

/- The contract of the document's Made: the tables. -/
namespace Go.Proofs.YtkcmohmfejmfoaaGreatDoor
open Go.RowKit
set_option linter.unusedVariables false

/-- Block g holds a Tables: the slice v, the words hs. -/
def TB (w : World) (g : Nat) (v : Value) (hs : List Int) : Prop := w.heap[g]? = some (.cells (v :: hs.map (Value.int .u32)).toArray 39 (0, 0))
section
variable {w w' : World} {g : Nat} {v : Value} {hs : List Int}
theorem TB.lt (h : TB w g v hs) : g < w.heap.size := by
  rcases Nat.lt_or_ge g w.heap.size with hlt | hge
  · exact hlt
  · unfold TB at h; rw [Array.getElem?_eq_none hge] at h; cases h
theorem TB.cell0 (h : TB w g v hs) : w.cell? ⟨g, 0, none⟩ = some v := by
  rw [cell_of_row w g 0 _ _ (0, 0) h]; simp
theorem TB.cellH (h : TB w g v hs) (i : Nat) (hi : i < hs.length) : w.cell? ⟨g, 1 + i, none⟩ = some (.int .u32 (hs.getD i 0)) := by
  rw [cell_of_row w g (1 + i) _ _ (0, 0) h, Nat.add_comm]
  simp [hi, List.getD]
theorem TB.frozen (h : TB w g v hs) (i : Nat) : w.frozen? ⟨g, i, none⟩ = false := by
  unfold TB at h
  simp [World.frozen?, h]
theorem TB.set0 (h : TB w g v hs) (u : Value) : TB (w.setCell ⟨g, 0, none⟩ u) g u hs := by
  unfold TB at h ⊢
  simp [World.setCell, Array.getElem?_modify, h]
theorem TB.setH (h : TB w g v hs) (i : Nat) (z : Int) : TB (w.setCell ⟨g, 1 + i, none⟩ (.int .u32 z)) g v (hs.set i z) := by
  unfold TB at h ⊢
  rw [Nat.add_comm]
  simp [World.setCell, Array.getElem?_modify, h, List.map_set]
theorem TB.far (h : TB w g v hs) {p : Addr} (hp : g ≠ p.block) (u : Value) : TB (w.setCell p u) g v hs := (Below.heap_setCell w p u g hp).trans h
theorem TB.alloc (h : TB w g v hs) (o : Obj) : TB (w.alloc o) g v hs := (Below.heap_alloc w o g h.lt).trans h
theorem TB.below {B : Nat} (h : TB w g v hs) (hb : Below B w w') (hg : g < B) : TB w' g v hs := (hb.block g hg).trans h
theorem TB.grown {row : Option Nat} (h : TB w g v hs) (hb : w.grownBy w' row) (hg : some g ≠ row) : TB w' g v hs := (hb.block g h.lt hg).trans h
end
/-- The tables as a value: the slice of the constants, and the words at first. -/
def tabV (g c : Nat) : Value := .agg (Value.slice (some ⟨g, 0, none⟩) 64 c :: hTab.map (Value.int .u32)).toArray
theorem sizeTab : (Tryz.prog.info? 39).map (·.size) = some 9 := by kernel_rfl
def MadePost (w : World) (e : Ending) (w' : World) : Prop :=
  ∃ g c, e = .returned (tabV g c) ∧ w'.ownsRow (w.heap.size + 2) 36 1 (.slice (some ⟨g, 0, none⟩) 64 c) 64 (kTab.map (Value.int .u32)) ∧ Below w.heap.size w w'
theorem infoU32m : (Tryz.prog.info? 36).map (fun i => (i.zero, i.size, i.bytes)) = some (some (.int .u32 0), 1, 4) := by kernel_rfl

set_option maxRecDepth 100000 in
set_option maxHeartbeats 4000000 in
theorem made_any (w : World) : Calls Tryz.prog 9 #[] w (MadePost w) := by
  obtain ⟨i0, hi0, hz0, hz1, hz2⟩ := info_parts infoU64
  obtain ⟨j0, hj0, hy0, hy1, hy2⟩ := info_parts infoU32m
  go_enter Tryz.func9, Tryz.ntmps9
  go_wp2_with fail
  go_loopw [2, 3] (fun l k wx => ∃ (n : Nat) (a : Option Addr) (c : Nat), n ≤ 310 ∧ k = .int .u64 ((n + 2 : Nat) : Int) ∧ l = .slice a (sieve n).length c ∧ wx.ownsRow (w.heap.size + 2) 71 1 (.slice a (sieve n).length c) (sieve n).length ((sieve n).map (Value.int .u64)) ∧ TB wx w.heap.size (.slice none 0 0) [0, 0, 0, 0, 0, 0, 0, 0] ∧ TB wx (w.heap.size + 1) (.slice none 0 0) [0, 0, 0, 0, 0, 0, 0, 0] ∧ Below w.heap.size w wx) (fun _ k _ => 312 - (intOf k).toNat)
  case atStart =>
    refine ⟨0, none, 0, by omega, rfl, rfl, World.ownsRow_nil _ _ _ _, ?_, ?_, ((Below.refl _ _).alloc (Nat.le_refl _) _).alloc (by simp) _⟩
    · exact heap_alloc2_old w _ _
    · exact heap_alloc2_new w _ _
  case round =>
    obtain ⟨n, a, c, hn, rfl, rfl, ho, ht0, ht1, hb⟩ := hrel
    have HO := Lib.hid ho
    have HT0 := Lib.hid ht0
    have HT1 := Lib.hid ht1
    have HB := Lib.hid hb
    clear ho ht0 ht1 hb
    by_cases hlt : n < 310
    · have hsh := sieve_short n hlt
      have hnx := sieve_next n
      have hok := sieve_ok n (by omega)
      generalize sieve n = ps at *
      have HNX := Lib.hid hnx
      have HOK := Lib.hid hok
      clear hnx hok
      have hlen2 : ((ps.length : Nat) : Int) < 64 := by omega
      have hkk : (2 : Int) ≤ ((n + 2 : Nat) : Int) ∧ ((n + 2 : Nat) : Int) ≤ 312 := by omega
      generalize hkn : ((n + 2 : Nat) : Int) = k at *
      have HKN := Lib.hid hkn
      clear hkn
      go_wp2_with fail
      go_loop [4, 5] (fun ok i => ∃ j : Nat, j ≤ ps.length ∧ i = .int .i64 j ∧ ok = .bool (allNe k ps j)) (fun _ i => ps.length - (intOf i).toNat)
      case atStart => exact ⟨0, by omega, rfl, rfl⟩
      case round =>
        obtain ⟨j, hj, rfl, rfl⟩ := hrel
        by_cases hlt2 : j < ps.length
        · have hjl : (j : Int) < (ps.length : Int) := by omega
          have hq := HOK.out (ps.getD j 0) (by simp [List.getD, hlt2])
          have hform : ∃ g, a = some ⟨g, 0, none⟩ := by
            obtain ⟨g, cap, hv, _, _⟩ := HO.out.form (by omega)
            injection hv with h1
            exact ⟨g, h1⟩
          obtain ⟨g, rfl⟩ := hform
          have hc : wr.cell? ⟨g, j, none⟩ = some (.int .u64 (ps.getD j 0)) := by
            have h := HO.out.cells (g := g) rfl j (.int .u64 (ps.getD j 0)) (by simp [List.getD, hlt2])
            have hp : (⟨g, 0, none⟩ : Addr).add j = ⟨g, j, none⟩ := by unfold Addr.add; split <;> simp_all
            rw [hp] at h
            exact h
          have hst : allNe k ps (j + 1) = (allNe k ps j && (k % ps.getD j 0 != 0)) := rfl
          generalize ps.getD j 0 = q at *
          have HST := Lib.hid hst
          clear hst
          have hq0 : (q == 0) = false := by rw [beq_eq_false_iff_ne]; omega
          cases hb2 : allNe k ps j
          · rw [hb2] at HST
            have HST2 := Lib.hid HST.out
            clear HST
            go_wp2_with fail
            go_round
            case rel => exact ⟨j + 1, by omega, by go_num, by rw [HST2.out]; rfl⟩
            case measure => simp [intOf]; omega
          · rw [hb2] at HST
            have HST2 := Lib.hid HST.out
            clear HST
            go_wp2_with fail
            exact ⟨⟨j + 1, by omega, by go_num, by rw [HST2.out]; rfl⟩, by simp [intOf]; omega⟩
        · obtain rfl : j = ps.length := by omega
          have hkk2 : k + 1 = ((n + 1 + 2 : Nat) : Int) := by rw [← HKN.out]; omega
          have HKK2 := Lib.hid hkk2
          clear hkk2
          cases hb2 : allNe k ps ps.length
          · have hps : sieve (n + 1) = ps := by rw [HNX.out, hb2]; rfl
            have HPS := Lib.hid hps
            clear hps hb2
            go_wp2_with fail
            go_roundw
            case rel =>
              refine ⟨n + 1, a, c, by omega, by rw [← HKK2.out], ?_, ?_, HT0.out, HT1.out, HB.out⟩
              · rw [HPS.out]
              · rw [HPS.out]; exact HO.out
            case measure =>
              have := HKN.out
              simp [intOf]; omega
          · have hps : sieve (n + 1) = ps ++ [k] := by rw [HNX.out, hb2]; rfl
            have HPS := Lib.hid hps
            clear hps hb2
            go_wp2_with (first
              | (at_builtin
                 refine wpList_append_lies _ rfl (.tmp 30) (.tmp 32) 70 rfl (w.heap.size + 2) 71 i0 _ 1 8 Tryz.underlying70 hi0 hz0 hz1 hz2 rfl (by omega) (.slice a ps.length c) ps.length (ps.map (Value.int .u64)) rfl (HO.out.alloc _) ⟨wr.heap.size, 0, none⟩ 1 1 [.int .u64 k] rfl rfl (cell_one_new _ _ _) (by simp [Value.oneCell']) (by omega) (by simp only [maxLen]; omega) (by omega) (by have := HT1.out.lt; simp; omega) (wr.heap.size + 1) (by simp) ?_
                 intro g1 c1 w1 hown1 hg1 hat1 hlt1
                 have HO1 := Lib.hid hown1
                 have HG1 := Lib.hid hg1
                 clear hown1 hg1 hat1 hlt1))
            go_roundw
            case rel =>
              refine ⟨n + 1, some ⟨g1, 0, none⟩, c1, by omega, by rw [← HKK2.out], ?_, ?_, ?_, ?_, ?_⟩
              · rw [HPS.out]; simp
              · rw [HPS.out]
                have h := HO1.out
                rw [show (ps ++ [k]).length = ps.length + 1 by simp, List.map_append]
                exact h
              · exact (HT0.out.alloc _).grown HG1.out (fun e => by have := (HO.out.lt _ e.symm).1; omega)
              · exact (HT1.out.alloc _).grown HG1.out (fun e => by have := (HO.out.lt _ e.symm).1; omega)
              · exact (HB.out.alloc HB.out.size _).grown HG1.out (by have := HB.out.size; simp; omega) (fun q hq => by have := (HO.out.lt q hq).1; omega)
            case measure =>
              have := HKN.out
              simp [intOf]; omega
    · obtain rfl : n = 310 := by omega
      have ho := HO.out
      rw [sieve_all] at ho
      rw [sieve_all, show ((310 + 2 : Nat) : Int) = 312 from rfl]
      have hpl : primes.length = 64 := rfl
      rw [hpl] at ho ⊢
      obtain ⟨gl, cl, hv, hgl, hgl2⟩ := ho.form (by omega)
      rw [hv] at ho ⊢
      clear HO
      have HO := Lib.hid ho
      clear ho hv hpl
      go_wp2_with fail
      go_loopw [6] (fun i wx => ∃ (j : Nat) (v : Value), j ≤ 64 ∧ i = .int .i64 j ∧ TB wx (w.heap.size + 1) v [0, 0, 0, 0, 0, 0, 0, 0] ∧ wx.ownsRow (w.heap.size + 2) 36 1 v j ((kTab.take j).map (Value.int .u32)) ∧ wx.ownsRow (w.heap.size + 2) 71 1 (.slice (some ⟨gl, 0, none⟩) 64 cl) 64 (primes.map (Value.int .u64)) ∧ TB wx w.heap.size (.slice none 0 0) [0, 0, 0, 0, 0, 0, 0, 0] ∧ Below w.heap.size w wx) (fun i _ => 64 - (intOf i).toNat)
      case atStart => exact ⟨0, .slice none 0 0, by omega, rfl, HT1.out, World.ownsRow_nil _ _ _ _, HO.out, HT0.out, HB.out⟩
      case round =>
        obtain ⟨j, v, hj, rfl, ht1, hov, hol, ht0, hb⟩ := hrel
        clear HO HT0 HT1 HB
        have HT1 := Lib.hid ht1
        have HOV := Lib.hid hov
        have HOL := Lib.hid hol
        have HT0 := Lib.hid ht0
        have HB := Lib.hid hb
        clear ht1 hov hol ht0 hb
        by_cases hlt2 : j < 64
        · have c0 := HT1.out.cell0
          have cj : wr.cell? ⟨gl, j, none⟩ = some (.int .u64 (primes.getD j 0)) := by
            have h := HOL.out.cells (g := gl) rfl j (.int .u64 (primes.getD j 0)) (by simp [List.getD, show j < primes.length from hlt2])
            have hp : (⟨gl, 0, none⟩ : Addr).add j = ⟨gl, j, none⟩ := by unfold Addr.add; split <;> simp_all
            rw [hp] at h
            exact h
          have hpr : 0 ≤ primes.getD j 0 ∧ primes.getD j 0 ≤ 1000 := by
            have h := sieve_ok 310 (by omega) (primes.getD j 0) (by rw [sieve_all]; simp [List.getD, show j < primes.length from hlt2])
            omega
          have hroot : ∀ W, Calls Tryz.prog 31 #[.int .u64 (primes.getD j 0), .bool true] W (RootPost W (kTab.getD j 0)) := fun W => by
            rw [← kroots j hlt2]
            exact root_any _ true W hpr.1 hpr.2
          have htk : kTab.take (j + 1) = kTab.take j ++ [kTab.getD j 0] := by
            rw [List.take_succ_eq_append_getElem (show j < kTab.length from hlt2)]
            simp [List.getD, show j < kTab.length from hlt2]
          generalize primes.getD j 0 = pj at *
          generalize kTab.getD j 0 = kj at *
          have HROOT := Lib.hid hroot
          have HTK := Lib.hid htk
          have kT : w.heap.size + 1 < wr.heap.size := HT1.out.lt
          have kL : gl < wr.heap.size := (HOL.out.lt gl rfl).2
          have jb : (j : Int) < 64 := by omega
          clear hroot htk hpr
          go_wp2_with fail
          go_region_law (first
            | (refine step_append_lies _ (by rfl) (.tmp 39) (.tmp 45) 35 (by rfl) (w.heap.size + 2) 36 j0 _ 1 4 Tryz.underlying35 hj0 hy0 hy1 hy2 rfl (by omega) v j ((kTab.take j).map (Value.int .u32)) (by rfl) (HV2.out.alloc _) ⟨w2.heap.size, 0, none⟩ 1 1 [.int .u32 kj] (by rfl) (by rfl) (cell_one_new w2 _ _) (by simp [Value.oneCell']) (by omega) (by simp only [maxLen]; omega) (by omega) (by have := HT2.out.lt; simp; omega) (w2.heap.size + 1) (by simp) ?_; intro g5 cap5 w5 hown5 hg5 hat5 hlt5; have HO5 := Lib.hid hown5; have HT5 := Lib.hid ((HT2.out.alloc (.cells #[.int .u32 kj] 36)).grown hg5 (fun e => by have := (HV2.out.lt _ e.symm).1; omega)); have HZ5 := Lib.hid ((HZ2.out.alloc (.cells #[.int .u32 kj] 36)).grown hg5 (fun e => by have := (HV2.out.lt _ e.symm).1; omega)); have HL5 := Lib.hid ((HL2.out.alloc (.cells #[.int .u32 kj] 36)).kept hg5 (.inr (by have := own_ne HL2.out HV2.out (by decide); exact fun e => this (by rw [← e]; rfl)))); have HB5 := Lib.hid ((HB2.out.alloc HB2.out.size (.cells #[.int .u32 kj] 36)).grown hg5 (by have := HB2.out.size; simp; omega) (fun q hq => by have := (HV2.out.lt q hq).1; omega)); have d0 := HT5.out.cell0; have df := HT5.out.frozen 0; clear hown5 hg5 hat5 hlt5)
            | (go_simp; go_at_call 31; (with_reducible refine (HROOT.out _).mono ?_); rintro _ w2 ⟨rfl, hb2⟩; have HT2 : Hid (TB w2 (w.heap.size + 1) v [0, 0, 0, 0, 0, 0, 0, 0]) := Lib.hid (TB.below (w := wr.drew) HT1.out hb2 HT1.out.lt); have HZ2 : Hid (TB w2 w.heap.size (.slice none 0 0) [0, 0, 0, 0, 0, 0, 0, 0]) := Lib.hid (TB.below (w := wr.drew) HT0.out hb2 HT0.out.lt); have HV2 : Hid (w2.ownsRow (w.heap.size + 2) 36 1 v j ((kTab.take j).map (Value.int .u32))) := Lib.hid (World.ownsRow.kept (w := wr.drew) HOV.out (only_below hb2 none) (by cases v.ownBlock <;> simp)); have HL2 : Hid (w2.ownsRow (w.heap.size + 2) 71 1 (.slice (some ⟨gl, 0, none⟩) 64 cl) 64 (primes.map (Value.int .u64))) := Lib.hid (World.ownsRow.kept (w := wr.drew) HOL.out (only_below hb2 none) (.inr (by simp [Value.ownBlock]))); have HB2 : Hid (Below w.heap.size w w2) := Lib.hid (HB.out.drew.trans (hb2.mono HB.out.size)); have e0 := HT2.out.cell0; have kT2 : w.heap.size + 1 < w2.heap.size := HT2.out.lt; have kT3 : ¬ w.heap.size + 1 = w2.heap.size := (by omega); clear hb2))
          all_goals
            go_wp2_with fail
            go_roundw
            case rel =>
              refine ⟨j + 1, .slice (some ⟨g5, 0, none⟩) (j + 1) cap5, by omega, by go_num, HT5.out.set0 _, ?_, ?_, HZ5.out.far (p := ⟨w.heap.size + 1, 0, none⟩) (by simp) _, HB5.out.setCell (p := ⟨w.heap.size + 1, 0, none⟩) (Nat.le_succ _) _⟩
              · rw [HTK.out, List.map_append]
                exact HO5.out.kept (only_set (only_refl w5 (some (w.heap.size + 1))) 0 _) (.inr (fun e => by have := (HO5.out.lt _ e).1; omega))
              · exact HL5.out.kept (only_set (only_refl w5 (some (w.heap.size + 1))) 0 _) (.inr (fun e => by have := (HL5.out.lt _ e).1; omega))
            case measure => simp [intOf]; omega
        · obtain rfl : j = 64 := by omega
          have hov := HOV.out
          rw [show kTab.take 64 = kTab from rfl] at hov
          obtain ⟨gk, ck, hv, hgk, hgk2⟩ := hov.form (by omega)
          rw [hv] at hov
          have ht1 := HT1.out
          rw [hv] at ht1
          clear HOV HT1
          have HOV := Lib.hid hov
          have HT1 := Lib.hid ht1
          clear hov ht1 hv
          rw [show ((64 : Nat) : Int) = 64 from rfl]
          go_wp2_with fail
          go_loopw [7] (fun i wx => ∃ j : Nat, j ≤ 8 ∧ i = .int .i64 j ∧ TB wx (w.heap.size + 1) (.slice (some ⟨gk, 0, none⟩) 64 ck) (hTab.take j ++ List.replicate (8 - j) 0) ∧ wx.ownsRow (w.heap.size + 2) 36 1 (.slice (some ⟨gk, 0, none⟩) 64 ck) 64 (kTab.map (Value.int .u32)) ∧ wx.ownsRow (w.heap.size + 2) 71 1 (.slice (some ⟨gl, 0, none⟩) 64 cl) 64 (primes.map (Value.int .u64)) ∧ TB wx w.heap.size (.slice none 0 0) [0, 0, 0, 0, 0, 0, 0, 0] ∧ Below w.heap.size w wx) (fun i _ => 8 - (intOf i).toNat)
          case atStart => exact ⟨0, by omega, rfl, HT1.out, HOV.out, HOL.out, HT0.out, HB.out⟩
          case round =>
            obtain ⟨j, hj, rfl, ht1, hov, hol, ht0, hb⟩ := hrel
            clear HOV HOL HT0 HT1 HB
            have HT1 := Lib.hid ht1
            have HOV := Lib.hid hov
            have HOL := Lib.hid hol
            have HT0 := Lib.hid ht0
            have HB := Lib.hid hb
            clear ht1 hov hol ht0 hb
            by_cases hlt2 : j < 8
            · have hjp : j < primes.length := show j < 64 by omega
              have cj : wr.cell? ⟨gl, j, none⟩ = some (.int .u64 (primes.getD j 0)) := by
                have h := HOL.out.cells (g := gl) rfl j (.int .u64 (primes.getD j 0)) (by simp [List.getD, hjp])
                have hp : (⟨gl, 0, none⟩ : Addr).add j = ⟨gl, j, none⟩ := by unfold Addr.add; split <;> simp_all
                rw [hp] at h
                exact h
              have hpr : 0 ≤ primes.getD j 0 ∧ primes.getD j 0 ≤ 1000 := by
                have h := sieve_ok 310 (by omega) (primes.getD j 0) (by rw [sieve_all]; simp [List.getD, hjp])
                omega
              have hroot : ∀ W, Calls Tryz.prog 31 #[.int .u64 (primes.getD j 0), .bool false] W (RootPost W (hTab.getD j 0)) := fun W => by
                rw [← hroots j hlt2]
                exact root_any _ false W hpr.1 hpr.2
              have hjh : j < hTab.length := hlt2
              have hset : (hTab.take j ++ List.replicate (8 - j) 0).set j (hTab.getD j 0) = hTab.take (j + 1) ++ List.replicate (8 - (j + 1)) 0 := by
                have e := set_at (hTab.take j) (7 - j) (hTab.getD j 0)
                have hl : (hTab.take j).length = j := by rw [List.length_take]; exact Nat.min_eq_left (Nat.le_of_lt hjh)
                rw [hl, show 7 - j + 1 = 8 - j by omega] at e
                rw [e, List.take_succ_eq_append_getElem hjh, show 7 - j = 8 - (j + 1) by omega]
                simp [List.getD, hjh]
              have hlen : (hTab.take j ++ List.replicate (8 - j) (0 : Int)).length = 8 := by
                rw [List.length_append, List.length_take, List.length_replicate, show hTab.length = 8 from rfl]
                omega
              generalize primes.getD j 0 = pj at *
              generalize hTab.getD j 0 = kj at *
              have HROOT := Lib.hid hroot
              have HSET := Lib.hid hset
              have HLEN := Lib.hid hlen
              have jb : (j : Int) < 8 := by omega
              have jb2 : (j : Int) < 64 := by omega
              clear hroot hset hpr hlen
              go_wp2_with (first
                | (go_at_call 31
                   (with_reducible refine (HROOT.out _).mono ?_)
                   rintro _ w2 ⟨rfl, hb2⟩
                   have HT2 := Lib.hid (HT1.out.below hb2 HT1.out.lt)
                   have HZ2 := Lib.hid (HT0.out.below hb2 HT0.out.lt)
                   have HV2 := Lib.hid (HOV.out.kept (only_below hb2 none) (.inr (by simp [Value.ownBlock])))
                   have HL2 := Lib.hid (HOL.out.kept (only_below hb2 none) (.inr (by simp [Value.ownBlock])))
                   have HB2 := Lib.hid (HB.out.trans (hb2.mono HB.out.size))
                   have d0 := HT2.out.cellH j (by rw [HLEN.out]; exact hlt2)
                   have df := HT2.out.frozen (1 + j)
                   clear hb2))
              refine ⟨⟨j + 1, by omega, by go_num, ?_, ?_, ?_, ?_, ?_⟩, by simp [intOf]; omega⟩
              · rw [← HSET.out]
                exact HT2.out.setH j kj
              · exact HV2.out.kept (only_set (only_refl w2 (some (w.heap.size + 1))) _ _) (.inr (fun e => by have := (HV2.out.lt _ e).1; omega))
              · exact HL2.out.kept (only_set (only_refl w2 (some (w.heap.size + 1))) _ _) (.inr (fun e => by have := (HL2.out.lt _ e).1; omega))
              · exact HZ2.out.far (p := ⟨w.heap.size + 1, 1 + j, none⟩) (by simp) _
              · exact HB2.out.setCell (p := ⟨w.heap.size + 1, 1 + j, none⟩) (Nat.le_succ _) _
            · obtain rfl : j = 8 := by omega
              have ht1 := HT1.out
              rw [show hTab.take 8 ++ List.replicate (8 - 8) 0 = hTab from rfl] at ht1
              clear HT1
              have HT1 := Lib.hid ht1
              clear ht1
              go_wp2_with (first
                | (refine wpList_load_row rfl 39 (.tmp 1) rfl (w.heap.size + 1) rfl 39 _ (0, 0) _ HT1.out Tryz.underlying39 rfl sizeTab ?_)
                | (refine wpList_store_row rfl 39 (.tmp 0) (.tmp 60) rfl w.heap.size (Value.slice (some ⟨gk, 0, none⟩) 64 ck :: hTab.map (Value.int .u32)).toArray rfl rfl 39 _ HT0.out sizeTab rfl (by simp [Value.oneCell']) ?_))
              have hg9 : wr.grownBy (wr.setRow w.heap.size (Value.slice (some ⟨gk, 0, none⟩) 64 ck :: hTab.map (Value.int .u32)).toArray) (some w.heap.size) := ⟨rfl, rfl, rfl, by simp, fun q hq hne => setRow_other wr w.heap.size q _ (fun e => hne (by rw [e]))⟩
              refine bodyPost_ret (v := tabV gk ck) (results_cell_row Tryz.results9 _ _ w.heap.size 39 _ _ _ rfl (setRow_heap wr w.heap.size _ _ _ _ HT0.out) Tryz.underlying39 rfl sizeTab) rfl ⟨gk, ck, rfl, ?_, ?_⟩
              · exact HOV.out.kept hg9 (.inr (fun e => by have := (HOV.out.lt _ e).1; omega))
              · exact below_only HB.out hg9 HB.out.size (Nat.le_refl _)
end Go.Proofs.YtkcmohmfejmfoaaGreatDoor

/- The contract of the document's Tail. The contract of the document's Words. The contract of the document's step of a block. Facts on states and tables that the laws ask. The contract of the document's digest. -/
/- The contract of the document's Tail. -/
namespace Go.Proofs.YtkcmohmfejmfoaaGreatDoor
open Go.RowKit
set_option linter.unusedVariables false

def RefTailPost (w : World) (n : Nat) (e : Ending) (w' : World) : Prop :=
  ∃ v, e = .returned v ∧ w'.ownsRow w.heap.size 5 1 v (nils n + 9) ((tailL n).map (Value.int .u8)) ∧ Below w.heap.size w w'

set_option maxHeartbeats 1000000 in
theorem refTail_any (n : Nat) (w : World) (hn : (n : Int) ≤ 1125899906842624) :
    Calls Tryz.prog 92 #[.int .i64 n] w (RefTailPost w n) := by
  obtain ⟨i0, hi0, hz0, hz1, hz2⟩ := info_parts infoU8
  have hnl := nils_lt n
  go_enter Tryz.func92, Tryz.ntmps92
  go_wp2_with fail
  go_loopw [3] (fun v wx => ∃ j g cap : Nat, j ≤ nils n ∧ v = .slice (some ⟨g, 0, none⟩) (1 + j) cap ∧ wx.ownsRow w.heap.size 5 1 (.slice (some ⟨g, 0, none⟩) (1 + j) cap) (1 + j) ((128 :: List.replicate j 0).map (Value.int .u8)) ∧ Below w.heap.size w wx) (fun v _ => nils n + 1 - lenV v)
  case atStart =>
    refine ⟨0, w.heap.size, 1, Nat.zero_le _, rfl, ⟨by simp, .inr ⟨w.heap.size, 1, #[.int .u8 128], rfl, Nat.le_refl _, heap_alloc_new w _, by omega, by simp [maxLen], by simp, by simp⟩⟩, (Below.refl _ _).alloc (Nat.le_refl _) _⟩
  case round =>
    obtain ⟨j, g, cap, hj, rfl, hown, hb⟩ := hrel
    have HO := Lib.hid hown
    clear hown
    by_cases hlt : j < nils n
    · have ht : (((n : Int) + (1 + (j : Int))) % 64 != 56) = true := by
        rw [bne_iff_ne]
        unfold nils at hlt
        omega
      go_wp2_with (first
        | (at_builtin
           refine wpList_append_own _ rfl (.tmp 14) (.tmp 15) 22 rfl w.heap.size 5 i0 _ 1 1 Tryz.underlying22 hi0 hz0 hz1 hz2 rfl (by omega) (.slice (some ⟨g, 0, none⟩) (1 + j) cap) (1 + j) ((128 :: List.replicate j 0).map (Value.int .u8)) rfl (HO.out.alloc _)
             ⟨wr.heap.size, 0, none⟩ 1 1 [.int .u8 0] rfl rfl (cell_one_new _ _ _) (by simp [Value.oneCell']) (by simp only [maxLen]; omega) (by omega) (by have := hb.size; simp; omega) ?_
           intro v1 w1 hown1 hg1 hat1
           obtain ⟨g1, cap1, hv1, hgg1, hlt1⟩ := hown1.form (by omega)
           rw [hv1]
           rw [hv1] at hown1
           have HO1 := Lib.hid hown1
           clear hown1 hat1 hv1))
      go_roundw
      case rel =>
        refine ⟨j + 1, g1, cap1, by omega, rfl, ?_, ?_⟩
        · have h := HO1.out
          rw [rep_snoc] at h
          exact h
        · exact (hb.alloc hb.size _).grown hg1 (by have := hb.size; simp; omega) (fun k hk => (HO.out.lt k hk).1)
      case measure => simp [lenV]; omega
    · obtain rfl : j = nils n := by omega
      have ht : (((n : Int) + (1 + (nils n : Int))) % 64 != 56) = false := by
        have : ((n : Int) + (1 + (nils n : Int))) % 64 = 56 := by
          unfold nils
          omega
        rw [this]; rfl
      go_wp2_with (first
        | (at_make
           refine wpList_make_ints _ rfl (.const (.int .i64 8)) (.const (.int .i64 8)) 22 rfl 5 i0 .u8 Tryz.underlying22 hi0 hz0 hz1 .i64 .i64 _ _ 8 rfl rfl (by omega) (by omega) (by rw [hz2]; omega) (by simp only [maxLen]; omega) ?_
           intro w1 hr1 hb1 hs1
           have HR1 := Lib.hid hr1
           have HS1 := Lib.hid hs1
           clear hr1 hs1))
      obtain ⟨w0, hw0⟩ : ∃ w0, w0 = wr := ⟨wr, rfl⟩
      subst hw0
      go_loopw [5, 6] (fun x i wx => ∃ m : Nat, m ≤ 8 ∧ i = .int .i64 ((m : Int) - 1) ∧ x = .int .u64 ((8 * (n : Int)) / 256 ^ (8 - m)) ∧ Row .u8 wx 5 w0.heap.size (bitsAt (8 * (n : Int)) m) ∧ wx.heap.size = w1.heap.size ∧ w1.grownBy wx (some w0.heap.size)) (fun _ i _ => (intOf i + 1).toNat)
      case atStart => exact ⟨8, by omega, rfl, by simp, HR1.out, rfl, only_refl _ _⟩
      case round =>
        obtain ⟨m, hm, rfl, rfl, hr, hs, hg⟩ := hrel
        have HS := Lib.hid hs
        have HG := Lib.hid hg
        clear hs hg
        by_cases hm0 : m = 0
        · subst hm0
          have hnews := hr.seg
          have HR := Lib.hid hr
          clear hr
          have hgl := HO.out.lt g rfl
          have own2 := (HO.out.kept (only_below hb1 none) (.inr (by simp [Value.ownBlock]))).kept HG.out (.inr (by simp [Value.ownBlock]; omega))
          have HO2 := Lib.hid own2
          have HN := Lib.hid hnews
          have hb3 : Below w.heap.size w wr := (hb.trans (hb1.mono hb.size)).grown HG.out (by have := hb.size; rw [HS1.out]; omega) (fun k hk => by have := hb.size; injection hk; omega)
          clear own2 hnews
          go_wp2_with (first
            | (at_builtin
               refine wpList_append_own _ rfl (.tmp 33) (.tmp 34) 22 rfl w.heap.size 5 i0 _ 1 1 Tryz.underlying22 hi0 hz0 hz1 hz2 rfl (by omega) (.slice (some ⟨g, 0, none⟩) (1 + nils n) cap) (1 + nils n) ((128 :: List.replicate (nils n) 0).map (Value.int .u8)) rfl HO2.out ⟨w0.heap.size, 0, none⟩ 8 8 ((be8 (8 * (n : Int))).map (Value.int .u8)) rfl rfl (by have h := HN.out.news; exact h) (by simp [be8, Value.oneCell']) (by simp only [maxLen]; omega) (by omega) hb3.size ?_
               intro v1 w2 hown1 hg1 hat1
               have HO1 := Lib.hid hown1
               have HG1 := Lib.hid hg1
               clear hown1 hat1 hg1))
          go_ret
          refine ⟨v1, rfl, ?_, hb3.grown HG1.out hb3.size (fun k hk => (HO2.out.lt k hk).1)⟩
          have h := HO1.out
          rw [← List.map_append, show 1 + nils n + 8 = nils n + 9 by omega] at h
          exact h
        · obtain ⟨q, rfl⟩ : ∃ q, m = q + 1 := ⟨m - 1, by omega⟩
          have hlen := bitsAt_length (8 * (n : Int)) (q + 1) hm
          obtain ⟨z0, hc⟩ := hr.has q (by omega)
          have hf := hr.frozen q
          have HR := Lib.hid hr
          clear hr hlen
          generalize hy : (8 * (n : Int)) / 256 ^ (8 - (q + 1)) = y
          have hy0 : 0 ≤ y := by rw [← hy]; exact Int.ediv_nonneg (by omega) (Int.pow_nonneg (by omega))
          have hy1 : y ≤ 9007199254740992 := by
            rw [← hy]
            exact Int.le_trans (Int.ediv_le_self _ (by omega)) (by omega)
          have HY := Lib.hid hy
          clear hy
          rw [show ((q + 1 : Nat) : Int) - 1 = (q : Int) by omega]
          go_wp2_with fail
          go_roundw
          case rel =>
            refine ⟨q, by omega, rfl, ?_, ?_, by simpa [World.setCell] using HS.out, only_set HG.out _ _⟩
            · rw [← HY.out, show 8 - (q + 1) = 7 - q by omega, pow_step _ _ (by omega)]
            · have h := HR.out.set q (y % 256)
              rw [← HY.out, show 8 - (q + 1) = 7 - q by omega, bitsAt_step _ _ (by omega)] at h
              rw [← HY.out, show 8 - (q + 1) = 7 - q by omega]
              exact h
          case measure => simp [intOf]
end Go.Proofs.YtkcmohmfejmfoaaGreatDoor

/- The contract of the document's Words. -/
namespace Go.Proofs.YtkcmohmfejmfoaaGreatDoor
open Go.RowKit
set_option linter.unusedVariables false

theorem infoU32' : (Tryz.prog.info? 36).map (fun i => (i.zero, i.size, i.bytes)) = some (some (.int .u32 0), 1, 4) := by kernel_rfl
def RefWordsPost (w : World) (bs : List Int) (e : Ending) (w' : World) : Prop :=
  ∃ g cap, e = .returned (.slice (some ⟨g, 0, none⟩) 64 cap) ∧ w'.ownsRow w.heap.size 36 1 (.slice (some ⟨g, 0, none⟩) 64 cap) 64 ((sched bs).map (Value.int .u32)) ∧ Below w.heap.size w w'
theorem own_drewN {w : World} {base : Nat} {e : TypeId} {size : Nat} {v : Value} {n : Nat} {xs : List Value} (h : w.ownsRow base e size v n xs) (k : Nat) : (w.drewN k).ownsRow base e size v n xs := h
def pre4 (bs : List Int) (i : Nat) : Nat → Int
  | 0 => 0
  | k + 1 => 256 * pre4 bs i k + bs.getD (4 * i + k) 0
theorem pre4_all (bs : List Int) (i : Nat) : pre4 bs i 4 = wordAt bs i := by
  simp [pre4, wordAt, wordOf]; omega
theorem pre4_bd {bs : List Int} (h : Bytes8 bs) (i : Nat) : ∀ k, k ≤ 3 → 0 ≤ pre4 bs i k ∧ pre4 bs i k ≤ 16777215
  | 0, _ => by simp [pre4]
  | 1, _ => by have := byte_at h (4 * i); simp [pre4]; simp at this; omega
  | 2, _ => by have h0 := byte_at h (4 * i); have h1 := byte_at h (4 * i + 1); simp [pre4]; simp at h0 h1; omega
  | 3, _ => by have h0 := byte_at h (4 * i); have h1 := byte_at h (4 * i + 1); have h2 := byte_at h (4 * i + 2); simp [pre4]; simp at h0 h1 h2; omega

set_option maxRecDepth 100000 in
set_option maxHeartbeats 2000000 in
theorem refWords_any (g off cap : Nat) (bs : List Int) (w : World) (hl : bs.length = 64) (hb8 : Bytes8 bs) (hseg : Seg .u8 w g off bs) (hg : g < w.heap.size) :
    Calls Tryz.prog 99 #[.slice (some ⟨g, off, none⟩) 64 cap] w (RefWordsPost w bs) := by
  obtain ⟨i0, hi0, hz0, hz1, hz2⟩ := info_parts infoU32'
  have HL := Lib.hid hl
  have HB8 := Lib.hid hb8
  have HSEG := Lib.hid hseg
  clear hl hb8 hseg
  go_enter Tryz.func99, Tryz.ntmps99
  go_wp2_with fail
  go_loopw [3, 4] (fun v i wx => ∃ k : Nat, k ≤ 16 ∧ i = .int .i64 k ∧ wx.ownsRow w.heap.size 36 1 v k ((first16 bs k).map (Value.int .u32)) ∧ Below w.heap.size w wx) (fun _ i _ => 16 - (intOf i).toNat)
  case atStart => exact ⟨0, by omega, rfl, World.ownsRow_nil _ _ _ _, Below.refl _ _⟩
  case round =>
    obtain ⟨k, hk, rfl, hown, hb⟩ := hrel
    have HO := Lib.hid hown
    have HB := Lib.hid hb
    clear hown hb
    by_cases hlt : k < 16
    · have hsg : Seg .u8 wr g off bs := HSEG.out.below HB.out hg
      have hl := HL.out
      have hcell : ∀ q, q < 4 → wr.cell? ⟨g, off + (4 * k + q), none⟩ = some (.int .u8 (bs.getD (4 * k + q) 0)) := fun q hq => hsg.cellD (4 * k + q) (by omega)
      have HC := Lib.hid hcell
      clear hsg hl hcell
      go_wp2_with fail
      go_loop [5, 6] (fun x i => ∃ q : Nat, q ≤ 4 ∧ i = .int .i64 q ∧ x = .int .u32 (pre4 bs k q)) (fun _ i => 4 - (intOf i).toNat)
      case atStart => exact ⟨0, by omega, rfl, rfl⟩
      case round =>
        obtain ⟨q, hq, rfl, rfl⟩ := hrel
        by_cases hlt2 : q < 4
        · have hp := pre4_bd HB8.out k q (by omega)
          have hy := byte_at HB8.out (4 * k + q)
          have hc := HC.out q hlt2
          have hpn : pre4 bs k (q + 1) = 256 * pre4 bs k q + bs.getD (4 * k + q) 0 := rfl
          have HPN := Lib.hid hpn
          clear hpn
          generalize pre4 bs k q = x at *
          generalize bs.getD (4 * k + q) 0 = y at *
          go_wp2_with fail
          go_round
          case rel => exact ⟨q + 1, by omega, by go_num, by rw [HPN.out]⟩
          case measure => simp [intOf]; omega
        · obtain rfl : q = 4 := by omega
          rw [pre4_all]
          generalize hx : wordAt bs k = x
          have HX := Lib.hid hx
          clear hx
          go_wp2_with (first
            | (at_builtin
               refine wpList_append_own _ rfl (.tmp 29) (.tmp 31) 35 rfl w.heap.size 36 i0 _ 1 4 Tryz.underlying35 hi0 hz0 hz1 hz2 rfl (by omega) u3 k ((first16 bs k).map (Value.int .u32)) rfl (HO.out.alloc _) ⟨wr.heap.size, 0, none⟩ 1 1 [.int .u32 x] rfl rfl (cell_one_new _ _ _) (by simp [Value.oneCell']) (by simp only [maxLen]; omega) (by omega) (by have := HB.out.size; simp; omega) ?_
               intro v1 w1 hown1 hg1 hat1
               have HO1 := Lib.hid hown1
               have HG1 := Lib.hid hg1
               clear hown1 hat1 hg1))
          go_roundw
          case rel =>
            refine ⟨k + 1, by omega, by go_num, ?_, ?_⟩
            · have h := HO1.out
              rw [first16_succ, List.map_append, HX.out]
              exact h
            · exact (HB.out.alloc HB.out.size _).grown HG1.out (by have := HB.out.size; simp; omega) (fun j hj => (HO.out.lt j hj).1)
          case measure => simp [intOf]; omega
    · obtain rfl : k = 16 := by omega
      rw [show ((16 : Nat) : Int) = 16 from rfl]
      go_wp2_with fail
      go_loopw [3, 7] (fun v i wx => ∃ n gg cp : Nat, 16 ≤ n ∧ n ≤ 64 ∧ i = .int .i64 n ∧ v = .slice (some ⟨gg, 0, none⟩) n cp ∧ wx.ownsRow w.heap.size 36 1 (.slice (some ⟨gg, 0, none⟩) n cp) n ((extW (first16 bs 16) (n - 16)).map (Value.int .u32)) ∧ Below w.heap.size w wx) (fun _ i _ => 64 - (intOf i).toNat)
      case atStart =>
        have ho := HO.out
        obtain ⟨gg, cp, hv, _, _⟩ := ho.form (by omega)
        rw [hv] at ho
        exact ⟨16, gg, cp, by omega, by omega, rfl, hv, ho, HB.out⟩
      case round =>
        obtain ⟨n, gg, cp, hn, hn2, rfl, rfl, hown, hb⟩ := hrel
        clear HO HB
        have HO := Lib.hid hown
        have HB := Lib.hid hb
        clear hown hb
        by_cases hlt : n < 64
        · have hlm : (extW (first16 bs 16) (n - 16)).length = n := by rw [extW_length, first16_length]; omega
          have hbd := extW_bd (first16_bd HB8.out 16) (n - 16)
          have cell : ∀ j, 2 ≤ j → j ≤ 16 → wr.cell? ⟨gg, n - j, none⟩ = some (.int .u32 ((extW (first16 bs 16) (n - 16)).getD (n - j) 0)) := fun j h1 h2 => by
            have h := HO.out.cells (g := gg) rfl (n - j) (.int .u32 ((extW (first16 bs 16) (n - 16)).getD (n - j) 0)) (by simp [List.getD, show n - j < (extW (first16 bs 16) (n - 16)).length by omega])
            have hp : (⟨gg, 0, none⟩ : Addr).add (n - j) = ⟨gg, n - j, none⟩ := by unfold Addr.add; split <;> simp_all
            rw [hp] at h
            exact h
          have c16 := cell 16 (by omega) (by omega)
          have c15 := cell 15 (by omega) (by omega)
          have c7 := cell 7 (by omega) (by omega)
          have c2 := cell 2 (by omega) (by omega)
          have b16 := word_at hbd (n - 16)
          have b15 := word_at hbd (n - 15)
          have b7 := word_at hbd (n - 7)
          have b2 := word_at hbd (n - 2)
          have hnext : nextW (extW (first16 bs 16) (n - 16)) = ((extW (first16 bs 16) (n - 16)).getD (n - 16) 0 + sp3 ((extW (first16 bs 16) (n - 16)).getD (n - 15) 0) 7 18 3 + (extW (first16 bs 16) (n - 16)).getD (n - 7) 0 + sp3 ((extW (first16 bs 16) (n - 16)).getD (n - 2) 0) 17 19 10) % 4294967296 := by
            unfold nextW; rw [hlm]
          generalize (extW (first16 bs 16) (n - 16)).getD (n - 16) 0 = x16 at *
          generalize (extW (first16 bs 16) (n - 16)).getD (n - 15) 0 = x15 at *
          generalize (extW (first16 bs 16) (n - 16)).getD (n - 7) 0 = x7 at *
          generalize (extW (first16 bs 16) (n - 16)).getD (n - 2) 0 = x2 at *
          have HN := Lib.hid hnext
          have HLM := Lib.hid hlm
          have s15 := sp3_bd x15 7 18 3
          have s2 := sp3_bd x2 17 19 10
          clear hlm hbd cell hnext
          go_wp2_with fail
          have wr16 : IntKind.i64.wrap ((n : Int) - 16) = (n : Int) - 16 := IntWalk.i64_in _ (by omega)
          have nn16 : (0 : Int) ≤ (n : Int) - 16 := by omega
          have ni16 : (16 : Int) ≤ (n : Int) := by omega
          have ub16 : (n : Int) - 16 < (n : Int) := by omega
          have tn16 : ((n : Int) - 16).toNat = n - 16 := by omega
          have wr15 : IntKind.i64.wrap ((n : Int) - 15) = (n : Int) - 15 := IntWalk.i64_in _ (by omega)
          have nn15 : (0 : Int) ≤ (n : Int) - 15 := by omega
          have ni15 : (15 : Int) ≤ (n : Int) := by omega
          have ub15 : (n : Int) - 15 < (n : Int) := by omega
          have tn15 : ((n : Int) - 15).toNat = n - 15 := by omega
          have wr7 : IntKind.i64.wrap ((n : Int) - 7) = (n : Int) - 7 := IntWalk.i64_in _ (by omega)
          have nn7 : (0 : Int) ≤ (n : Int) - 7 := by omega
          have ni7 : (7 : Int) ≤ (n : Int) := by omega
          have ub7 : (n : Int) - 7 < (n : Int) := by omega
          have tn7 : ((n : Int) - 7).toNat = n - 7 := by omega
          have wr2 : IntKind.i64.wrap ((n : Int) - 2) = (n : Int) - 2 := IntWalk.i64_in _ (by omega)
          have nn2 : (0 : Int) ≤ (n : Int) - 2 := by omega
          have ni2 : (2 : Int) ≤ (n : Int) := by omega
          have ub2 : (n : Int) - 2 < (n : Int) := by omega
          have tn2 : ((n : Int) - 2).toNat = n - 2 := by omega
          go_quiet ((go_at_call 104; exact Calls.quiet_of (turn_any _ _ _ b15.1 b15.2 (by omega) (by omega))))
          go_wp2_with fail
          go_quiet ((go_at_call 104; exact quiet_add (turn_any _ _ _ b2.1 b2.2 (by omega) (by omega))))
          go_wp2_with fail
          have e15 : bits .xor .u32 (bits .xor .u32 (rotr x15 7) (rotr x15 18)) (x15 / 8) = sp3 x15 7 18 3 := by unfold sp3; rfl
          have e2 : bits .xor .u32 (bits .xor .u32 (rotr x2 17) (rotr x2 19)) (x2 / 1024) = sp3 x2 17 19 10 := by unfold sp3; rfl
          rw [e15, e2]
          clear e15 e2
          generalize hS1 : sp3 x15 7 18 3 = y15 at *
          generalize hS2 : sp3 x2 17 19 10 = y2 at *
          have HS1 := Lib.hid hS1
          have HS2 := Lib.hid hS2
          clear hS1 hS2
          go_region_law (first
            | (refine step_append_lies _ (by rfl) (.tmp 77) (.tmp 93) 35 (by rfl) w.heap.size 36 i0 _ 1 4 Tryz.underlying35 hi0 hz0 hz1 hz2 rfl (by omega) (.slice (some ⟨gg, 0, none⟩) n cp) n ((extW (first16 bs 16) (n - 16)).map (Value.int .u32)) (by rfl) ((own_drewN HO.out _).alloc _) ⟨wr.heap.size, 0, none⟩ 1 1 [.int .u32 (IntKind.u32.wrap (IntKind.u32.wrap (IntKind.u32.wrap (x16 + y15) + x7) + y2))] (by rfl) (by rfl) (cell_one_new (wr.drewN _) _ _) (by simp [Value.oneCell']) (by omega) (by simp only [maxLen]; omega) (by omega) (by have := HB.out.size; simp; omega) (wr.heap.size + 1) (by simp) ?_; intro g5 cap5 w5 hown5 hg5 hat5 hlt5; have HO5 := Lib.hid hown5; have HG5 := Lib.hid hg5; clear hown5 hg5 hat5 hlt5))
          all_goals
            clear wr16 nn16 ni16 ub16 tn16 wr15 nn15 ni15 ub15 tn15 wr7 nn7 ni7 ub7 tn7 wr2 nn2 ni2 ub2 tn2 c16 c15 c7 c2 b16 b15 b7 b2 s15 s2
            go_wp2_with fail
            go_roundw
            case rel =>
              refine ⟨n + 1, g5, cap5, by omega, by omega, by go_num, rfl, ?_, ?_⟩
              · have h := HO5.out
                rw [wrap_sum, ← HN.out] at h
                rw [show n + 1 - 16 = (n - 16) + 1 by omega, extW, List.map_append]
                exact h
              · exact ((below_drewN HB.out _).alloc HB.out.size _).grown HG5.out (by have := HB.out.size; simp; omega) (fun j hj => (HO.out.lt j hj).1)
            case measure => simp [intOf]; omega
        · obtain rfl : n = 64 := by omega
          go_wp2_with fail
          go_ret
          exact ⟨gg, cp, rfl, HO.out, HB.out⟩
end Go.Proofs.YtkcmohmfejmfoaaGreatDoor

/- The contract of the document's step of a block. -/
namespace Go.Proofs.YtkcmohmfejmfoaaGreatDoor
open Go.RowKit
set_option linter.unusedVariables false

theorem refRound_list (s : List Int) (k v : Int) (w : World) (hs : s.length = 8) (hsb : Words32 s) (hk : 0 ≤ k) (hk2 : k ≤ 4294967295) (hv : 0 ≤ v) (hv2 : v ≤ 4294967295) :
    Calls Tryz.prog 100 #[stV s, .int .u32 k, .int .u32 v] w fun e w' => e = .returned (stV (rnd s k v)) ∧ Below w.heap.size w w' := by
  obtain ⟨a, b, c, d, e, f, g, z, rfl⟩ := list_8 s hs
  have ba := hsb a (by simp)
  have bd := hsb d (by simp)
  have be := hsb e (by simp)
  have bz := hsb z (by simp)
  exact refRound_any a b c d e f g z k v w ba.1 ba.2 bd.1 bd.2 be.1 be.2 bz.1 bz.2 hk hk2 hv hv2
theorem tab_row (w : World) (gk ck : Nat) (o1 o2 : Obj) : TB (((w.alloc (.cells (Value.slice (some ⟨gk, 0, none⟩) 64 ck :: hTab.map (Value.int .u32)).toArray 39)).alloc o1).alloc o2) w.heap.size (.slice (some ⟨gk, 0, none⟩) 64 ck) hTab := by
  have h : TB (w.alloc (.cells (Value.slice (some ⟨gk, 0, none⟩) 64 ck :: hTab.map (Value.int .u32)).toArray 39)) w.heap.size (.slice (some ⟨gk, 0, none⟩) 64 ck) hTab := heap_alloc_new w _
  exact (h.alloc _).alloc _


set_option maxRecDepth 100000 in
set_option maxHeartbeats 4000000 in
theorem refStep_any (g off cap gk ck : Nat) (s bs : List Int) (w : World) (hs : s.length = 8) (hsb : Words32 s) (hl : bs.length = 64) (hb8 : Bytes8 bs) (hseg : Seg .u8 w g off bs) (hg : g < w.heap.size) (hks : Seg .u32 w gk 0 kTab) (hgk : gk < w.heap.size) :
    Calls Tryz.prog 93 #[tabV gk ck, stV s, .slice (some ⟨g, off, none⟩) 64 cap] w (StepPost w s bs) := by
  have hlen := sched_length bs
  have hwb := sched_bd hb8
  have hi8 : (Tryz.prog.info? 37).map (·.size) = some s.length := by rw [hs]; exact sizeA8
  have b3 : ∀ o1 o2 o3, Below w.heap.size w (((w.alloc o1).alloc o2).alloc o3) := fun o1 o2 o3 => (((Below.refl _ _).alloc (Nat.le_refl _) _).alloc (by simp) _).alloc (by simp; omega) _
  have r1 : ∀ o1 o3, Row .u32 (((w.alloc o1).alloc (.cells (s.map (Value.int .u32)).toArray 37)).alloc o3) 37 (w.heap.size + 1) s := fun o1 o3 => by
    have h := (Row.new (k := .u32) (w.alloc o1) 37 s).alloc o3
    have e : (w.alloc o1).heap.size = w.heap.size + 1 := by simp
    rw [e] at h
    exact h
  have r2 : ∀ o1 o2, Row .u32 (((w.alloc o1).alloc o2).alloc (.cells (([0, 0, 0, 0, 0, 0, 0, 0] : List Int).map (Value.int .u32)).toArray 37)) 37 (w.heap.size + 2) [0, 0, 0, 0, 0, 0, 0, 0] := fun o1 o2 => by
    have h := Row.new (k := .u32) ((w.alloc o1).alloc o2) 37 [0, 0, 0, 0, 0, 0, 0, 0]
    have e : ((w.alloc o1).alloc o2).heap.size = w.heap.size + 2 := by simp
    rw [e] at h
    exact h
  have HI8 := Lib.hid hi8
  have HL := Lib.hid hlen
  have HWB := Lib.hid hwb
  have HS := Lib.hid hs
  have HSB := Lib.hid hsb
  have HKS := Lib.hid hks
  have HBS := Lib.hid (And.intro hl (And.intro hb8 hseg))
  have B3 := Lib.hid b3
  have R1 := Lib.hid r1
  have R2 := Lib.hid r2
  have TR := Lib.hid (tab_row w gk ck)
  clear hlen hwb hi8 hs hsb hks hl hb8 hseg b3 r1 r2
  unfold stV tabV
  go_enter Tryz.func93, Tryz.ntmps93
  go_wp2_with fail
  refine (refWords_any g off cap bs _ HBS.out.1 HBS.out.2.1 (HBS.out.2.2.below (B3.out _ _ _) hg) (by simp; omega)).mono ?_
  rintro e w1 ⟨gw, cw, rfl, ho1, hb1⟩
  have hgw := ho1.lt gw rfl
  have HO1 := Lib.hid ho1
  have HT1 : Hid (TB w1 w.heap.size (.slice (some ⟨gk, 0, none⟩) 64 ck) hTab) := Lib.hid ((TR.out _ _).below hb1 (by first | (simp; done) | (simp; omega)))
  have HV1 : Hid (Row .u32 w1 37 (w.heap.size + 1) s) := Lib.hid ((R1.out _ _).below hb1 (by first | (simp; done) | (simp; omega)))
  have HZ1 : Hid (Row .u32 w1 37 (w.heap.size + 2) [0, 0, 0, 0, 0, 0, 0, 0]) := Lib.hid ((R2.out _ _).below hb1 (by simp))
  have HB1 : Hid (Below w.heap.size w w1) := Lib.hid ((B3.out _ _ _).trans (hb1.mono (by simp; omega)))
  have hgw2 : w.heap.size + 3 ≤ gw := by have := hgw.1; simp at this; omega
  have hgw3 : gw < w1.heap.size := hgw.2
  clear ho1 hb1 hgw
  go_wp2_with (first
    | (refine wpList_load_ints rfl 37 (.tmp 4) rfl (w.heap.size + 1) rfl 37 .u32 s HV1.out 8 36 Tryz.underlying37 HI8.out ?_)
    | (refine wpList_store_ints rfl 37 (.tmp 8) (.tmp 13) rfl w1.heap.size .u32 s rfl rfl 37 [0, 0, 0, 0, 0, 0, 0, 0] (Row.new w1 37 [0, 0, 0, 0, 0, 0, 0, 0]) HI8.out (by rw [HS.out]; rfl) ?_
       intro w2 hr2 hg2 hs2
       have HX2 := Lib.hid hr2
       have HO2 := Lib.hid ((HO1.out.alloc (.cells (([0, 0, 0, 0, 0, 0, 0, 0] : List Int).map (Value.int .u32)).toArray 37)).kept hg2 (.inr (by simp [Value.ownBlock]; omega)))
       have HT2 := Lib.hid ((HT1.out.alloc (.cells (([0, 0, 0, 0, 0, 0, 0, 0] : List Int).map (Value.int .u32)).toArray 37)).grown hg2 (by have := HT1.out.lt; simp; omega))
       have HV2 := Lib.hid ((HV1.out.alloc (.cells (([0, 0, 0, 0, 0, 0, 0, 0] : List Int).map (Value.int .u32)).toArray 37)).grown hg2 (by have := HV1.out.lt; simp; omega))
       have HZ2 := Lib.hid ((HZ1.out.alloc (.cells (([0, 0, 0, 0, 0, 0, 0, 0] : List Int).map (Value.int .u32)).toArray 37)).grown hg2 (by have := HZ1.out.lt; simp; omega))
       have HB2 : Hid (Below w.heap.size w w2) := Lib.hid (below_only (HB1.out.alloc HB1.out.size _) hg2 (by have := HB1.out.size; simp; omega) HB1.out.size)
       clear hr2 hg2 hs2))
  obtain ⟨gx, hgx⟩ : ∃ gx, gx = w1.heap.size := ⟨_, rfl⟩
  rw [← hgx]
  have hgx2 : gw < gx := by omega
  have HX2' : Hid (Row .u32 w2 37 gx s) := Lib.hid (by rw [hgx]; exact HX2.out)
  clear hgx HX2
  go_loopw [9] (fun i wx => ∃ n : Nat, n ≤ 64 ∧ i = .int .i64 n ∧ Row .u32 wx 37 gx (rnds (sched bs) s n) ∧ Row .u32 wx 37 (w.heap.size + 1) s ∧ Row .u32 wx 37 (w.heap.size + 2) [0, 0, 0, 0, 0, 0, 0, 0] ∧ TB wx w.heap.size (.slice (some ⟨gk, 0, none⟩) 64 ck) hTab ∧ Seg .u32 wx gw 0 (sched bs) ∧ Below w.heap.size w wx) (fun i _ => 64 - (intOf i).toNat)
  case atStart => exact ⟨0, by omega, rfl, HX2'.out, HV2.out, HZ2.out, HT2.out, own_seg HO2.out, HB2.out⟩
  case round =>
    obtain ⟨n, hn, rfl, hx, hv, hz, ht, hsw, hb⟩ := hrel
    have HX := Lib.hid hx
    have HV := Lib.hid hv
    have HZ := Lib.hid hz
    have HT := Lib.hid ht
    have HSW := Lib.hid hsw
    have HB := Lib.hid hb
    clear hx hv hz ht hsw hb
    by_cases hlt : n < 64
    · have hl8 : (rnds (sched bs) s n).length = 8 := rnds_length HS.out n
      have hck := (HKS.out.below HB.out hgk).cellD n (by rw [kTab_length]; exact hlt)
      have hcw := HSW.out.cellD n (by rw [HL.out]; exact hlt)
      rw [Nat.zero_add] at hck hcw
      have hct := HT.out.cell0
      have bw := word_at HWB.out n
      have bk := word_at kTab_bd n
      have hrr : ∀ W, Calls Tryz.prog 100 #[stV (rnds (sched bs) s n), .int .u32 (kTab.getD n 0), .int .u32 ((sched bs).getD n 0)] W (fun e w' => e = .returned (stV (rnds (sched bs) s (n + 1))) ∧ Below W.heap.size W w') := fun W => refRound_list _ _ _ W hl8 (rnds_bd HS.out HSB.out n) bk.1 bk.2 bw.1 bw.2
      obtain ⟨y0, y1, y2, y3, y4, y5, y6, y7, hy⟩ := list_8 (rnds (sched bs) s (n + 1)) (rnds_length HS.out (n + 1))
      obtain ⟨x0, x1, x2, x3, x4, x5, x6, x7, hx⟩ := list_8 (rnds (sched bs) s n) hl8
      have hr := HX.out
      rw [hx] at hr hrr
      rw [hy] at hrr
      generalize kTab.getD n 0 = kk at *
      generalize (sched bs).getD n 0 = ww at *
      have hc : ∀ W, Calls Tryz.prog 100 #[.agg #[.int .u32 x0, .int .u32 x1, .int .u32 x2, .int .u32 x3, .int .u32 x4, .int .u32 x5, .int .u32 x6, .int .u32 x7], .int .u32 kk, .int .u32 ww] W (fun e w' => e = .returned (.agg #[.int .u32 y0, .int .u32 y1, .int .u32 y2, .int .u32 y3, .int .u32 y4, .int .u32 y5, .int .u32 y6, .int .u32 y7]) ∧ Below W.heap.size W w') := hrr
      have HC := Lib.hid hc
      have HNX := Lib.hid hy
      have HR2 := Lib.hid hr
      have c0 := hr.cell 0 (by simp)
      have c1 := hr.cell 1 (by simp)
      have c2 := hr.cell 2 (by simp)
      have c3 := hr.cell 3 (by simp)
      have c4 := hr.cell 4 (by simp)
      have c5 := hr.cell 5 (by simp)
      have c6 := hr.cell 6 (by simp)
      have c7 := hr.cell 7 (by simp)
      simp only [List.getElem_cons_zero, List.getElem_cons_succ] at c0 c1 c2 c3 c4 c5 c6 c7
      have nb : (n : Int) < 64 := by omega
      clear hl8 hrr hy hx hr hc
      go_wp2_with fail
      go_region_with (first
        | (go_at_call 100
           (with_reducible refine (HC.out _).mono ?_)
           rintro _ w7 ⟨rfl, hb7⟩
           have HR3 : Hid (Row .u32 w7 37 gx [x0, x1, x2, x3, x4, x5, x6, x7]) := Lib.hid (HR2.out.drew.below hb7 HR2.out.lt)
           have HV3 : Hid (Row .u32 w7 37 (w.heap.size + 1) s) := Lib.hid (HV.out.drew.below hb7 HV.out.lt)
           have HZ3 : Hid (Row .u32 w7 37 (w.heap.size + 2) [0, 0, 0, 0, 0, 0, 0, 0]) := Lib.hid (HZ.out.drew.below hb7 HZ.out.lt)
           have HT3 : Hid (TB w7 w.heap.size (.slice (some ⟨gk, 0, none⟩) 64 ck) hTab) := Lib.hid (TB.below (w := wr.drew) HT.out hb7 HT.out.lt)
           have HSW3 : Hid (Seg .u32 w7 gw 0 (sched bs)) := Lib.hid (HSW.out.drew.below hb7 (Nat.lt_trans hgx2 HR2.out.lt))
           have HB3 : Hid (Below w.heap.size w w7) := Lib.hid (HB.out.drew.trans (hb7.mono HB.out.size))
           have t0 := HR3.out.cell 0 (by simp)
           have t1 := HR3.out.cell 1 (by simp)
           have t2 := HR3.out.cell 2 (by simp)
           have t3 := HR3.out.cell 3 (by simp)
           have t4 := HR3.out.cell 4 (by simp)
           have t5 := HR3.out.cell 5 (by simp)
           have t6 := HR3.out.cell 6 (by simp)
           have t7 := HR3.out.cell 7 (by simp)
           have tf := fun o => HR3.out.frozen o
           clear hb7))
      all_goals
        obtain ⟨w8, hw8⟩ : ∃ w8, w8 = ((((((((w7.setCell ⟨gx, 0, none⟩ (.int .u32 y0)).setCell ⟨gx, 1, none⟩ (.int .u32 y1)).setCell ⟨gx, 2, none⟩ (.int .u32 y2)).setCell ⟨gx, 3, none⟩ (.int .u32 y3)).setCell ⟨gx, 4, none⟩ (.int .u32 y4)).setCell ⟨gx, 5, none⟩ (.int .u32 y5)).setCell ⟨gx, 6, none⟩ (.int .u32 y6)).setCell ⟨gx, 7, none⟩ (.int .u32 y7)) := ⟨_, rfl⟩
        rw [← hw8]
        have HX8 : Hid (Row .u32 w8 37 gx [y0, y1, y2, y3, y4, y5, y6, y7]) := Lib.hid (by rw [hw8]; exact ((((((((HR3.out.set 0 y0).set 1 y1).set 2 y2).set 3 y3).set 4 y4).set 5 y5).set 6 y6).set 7 y7))
        have HV8 : Hid (Row .u32 w8 37 (w.heap.size + 1) s) := Lib.hid (by rw [hw8]; exact ((((((((HV3.out.far (p := ⟨gx, 0, none⟩) (by simp; omega) (.int .u32 y0)).far (p := ⟨gx, 1, none⟩) (by simp; omega) (.int .u32 y1)).far (p := ⟨gx, 2, none⟩) (by simp; omega) (.int .u32 y2)).far (p := ⟨gx, 3, none⟩) (by simp; omega) (.int .u32 y3)).far (p := ⟨gx, 4, none⟩) (by simp; omega) (.int .u32 y4)).far (p := ⟨gx, 5, none⟩) (by simp; omega) (.int .u32 y5)).far (p := ⟨gx, 6, none⟩) (by simp; omega) (.int .u32 y6)).far (p := ⟨gx, 7, none⟩) (by simp; omega) (.int .u32 y7)))
        have HZ8 : Hid (Row .u32 w8 37 (w.heap.size + 2) [0, 0, 0, 0, 0, 0, 0, 0]) := Lib.hid (by rw [hw8]; exact ((((((((HZ3.out.far (p := ⟨gx, 0, none⟩) (by simp; omega) (.int .u32 y0)).far (p := ⟨gx, 1, none⟩) (by simp; omega) (.int .u32 y1)).far (p := ⟨gx, 2, none⟩) (by simp; omega) (.int .u32 y2)).far (p := ⟨gx, 3, none⟩) (by simp; omega) (.int .u32 y3)).far (p := ⟨gx, 4, none⟩) (by simp; omega) (.int .u32 y4)).far (p := ⟨gx, 5, none⟩) (by simp; omega) (.int .u32 y5)).far (p := ⟨gx, 6, none⟩) (by simp; omega) (.int .u32 y6)).far (p := ⟨gx, 7, none⟩) (by simp; omega) (.int .u32 y7)))
        have HT8 : Hid (TB w8 w.heap.size (.slice (some ⟨gk, 0, none⟩) 64 ck) hTab) := Lib.hid (by rw [hw8]; exact ((((((((HT3.out.far (p := ⟨gx, 0, none⟩) (by simp; omega) (.int .u32 y0)).far (p := ⟨gx, 1, none⟩) (by simp; omega) (.int .u32 y1)).far (p := ⟨gx, 2, none⟩) (by simp; omega) (.int .u32 y2)).far (p := ⟨gx, 3, none⟩) (by simp; omega) (.int .u32 y3)).far (p := ⟨gx, 4, none⟩) (by simp; omega) (.int .u32 y4)).far (p := ⟨gx, 5, none⟩) (by simp; omega) (.int .u32 y5)).far (p := ⟨gx, 6, none⟩) (by simp; omega) (.int .u32 y6)).far (p := ⟨gx, 7, none⟩) (by simp; omega) (.int .u32 y7)))
        have hgrow : w7.grownBy w8 (some gx) := by rw [hw8]; exact (only_set (only_set (only_set (only_set (only_set (only_set (only_set (only_set (only_refl w7 (some gx)) 0 (.int .u32 y0)) 1 (.int .u32 y1)) 2 (.int .u32 y2)) 3 (.int .u32 y3)) 4 (.int .u32 y4)) 5 (.int .u32 y5)) 6 (.int .u32 y6)) 7 (.int .u32 y7))
        have HSW8 : Hid (Seg .u32 w8 gw 0 (sched bs)) := Lib.hid (HSW3.out.keep fun o => World.cell?_of_block (hgrow.block gw (Nat.lt_trans hgx2 HR3.out.lt) (by simp; omega)))
        have HB8 : Hid (Below w.heap.size w w8) := Lib.hid (below_only HB3.out hgrow HB3.out.size (by omega))
        clear hw8 hgrow t0 t1 t2 t3 t4 t5 t6 t7 tf c0 c1 c2 c3 c4 c5 c6 c7 hct hck hcw
        go_wp2_with fail
        go_roundw
        case rel => exact ⟨n + 1, by omega, by go_num, by rw [HNX.out]; exact HX8.out, HV8.out, HZ8.out, HT8.out, HSW8.out, HB8.out⟩
        case measure => simp [intOf]; omega
    · obtain rfl : n = 64 := by omega
      have hxl : (rnds (sched bs) s 64).length = 8 := rnds_length HS.out 64
      have hfin : stepL s bs = addN (rnds (sched bs) s 64) s 8 := (addN_all hxl HS.out).symm
      have hxb : Words32 (rnds (sched bs) s 64) := rnds_bd HS.out HSB.out 64
      generalize rnds (sched bs) s 64 = x at *
      have HXL := Lib.hid hxl
      have HFIN := Lib.hid hfin
      have HXB := Lib.hid hxb
      have hi8x : (Tryz.prog.info? 37).map (·.size) = some x.length := by rw [hxl]; exact sizeA8
      have HI8X := Lib.hid hi8x
      clear hxl hfin hxb hi8x
      rw [show ((64 : Nat) : Int) = 64 from rfl]
      go_wp2_with fail
      go_loopw [10] (fun i wx => ∃ n : Nat, n ≤ 8 ∧ i = .int .i64 n ∧ Row .u32 wx 37 gx (addN x s n) ∧ Row .u32 wx 37 (w.heap.size + 1) s ∧ Row .u32 wx 37 (w.heap.size + 2) [0, 0, 0, 0, 0, 0, 0, 0] ∧ Below w.heap.size w wx) (fun i _ => 8 - (intOf i).toNat)
      case atStart => exact ⟨0, by omega, rfl, HX.out, HV.out, HZ.out, HB.out⟩
      case round =>
        obtain ⟨n, hn, rfl, hx, hr, hz, hb⟩ := hrel
        clear HX HV HZ HB HT HSW
        have HX := Lib.hid hx
        have HR := Lib.hid hr
        have HZ := Lib.hid hz
        have HB := Lib.hid hb
        clear hx hr hz hb
        by_cases hlt : n < 8
        · have c1 := HX.out.cellD n (by rw [addN_length, HXL.out]; exact hlt)
          have c2 := HR.out.cellD n (by rw [HS.out]; exact hlt)
          have f1 := HX.out.frozen n
          rw [addN_get x s n n (Nat.le_refl _)] at c1
          have b1 := word_at HXB.out n
          have b2 := word_at HSB.out n
          have hst : Row .u32 (wr.setCell ⟨gx, n, none⟩ (.int .u32 ((x.getD n 0 + s.getD n 0) % 4294967296))) 37 gx (addN x s (n + 1)) := HX.out.set n _
          generalize x.getD n 0 = y at *
          generalize s.getD n 0 = v at *
          have HST := Lib.hid hst
          have nb : (n : Int) < 8 := by omega
          clear hst
          go_wp2_with fail
          go_region
          go_wp2_with fail
          go_roundw
          case rel =>
            refine ⟨n + 1, by omega, by go_num, ?_, ?_, ?_, ?_⟩
            · exact HST.out.drew
            · exact HR.out.drew.far (p := ⟨gx, n, none⟩) (by simp; omega) _
            · exact HZ.out.drew.far (p := ⟨gx, n, none⟩) (by simp; omega) _
            · exact HB.out.drew.setCell (p := ⟨gx, n, none⟩) (by simp; omega) _
          case measure => simp [intOf]; omega
        · obtain rfl : n = 8 := by omega
          have hi8y : (Tryz.prog.info? 37).map (·.size) = some (addN x s 8).length := by rw [addN_length]; exact HI8X.out
          have HI8Y := Lib.hid hi8y
          clear hi8y
          go_wp2_with (first
            | (refine wpList_load_ints rfl 37 (.tmp 8) rfl gx rfl 37 .u32 (addN x s 8) HX.out 8 36 Tryz.underlying37 HI8Y.out ?_)
            | (refine wpList_store_ints rfl 37 (.tmp 6) (.tmp 42) rfl (w.heap.size + 2) .u32 (addN x s 8) rfl rfl 37 [0, 0, 0, 0, 0, 0, 0, 0] HZ.out HI8Y.out (by rw [addN_length, HXL.out]; rfl) ?_
               intro w5 hr5 hg5 hs5
               have HR5 := Lib.hid hr5
               have HG5 := Lib.hid hg5
               clear hr5 hg5 hs5))
          refine bodyPost_ret (v := stV (addN x s 8)) (results_cell_row Tryz.results93 _ _ (w.heap.size + 2) 37 _ _ _ rfl HR5.out Tryz.underlying37 rfl (by rw [ints_size]; exact HI8Y.out)) rfl ⟨by rw [HFIN.out], ?_⟩
          exact below_only HB.out HG5.out HB.out.size (by omega)
end Go.Proofs.YtkcmohmfejmfoaaGreatDoor

/- Facts on states and tables that the laws ask. -/
namespace Go.Proofs.YtkcmohmfejmfoaaGreatDoor
open Go.RowKit
set_option linter.unusedVariables false

theorem tb_cells {w : World} {g : Nat} {v : Value} (h : TB w g v hTab) : w.cell? ⟨g, 1, none⟩ = some (.int .u32 1779033703) ∧ w.cell? ⟨g, 2, none⟩ = some (.int .u32 3144134277) ∧ w.cell? ⟨g, 3, none⟩ = some (.int .u32 1013904242) ∧ w.cell? ⟨g, 4, none⟩ = some (.int .u32 2773480762) ∧ w.cell? ⟨g, 5, none⟩ = some (.int .u32 1359893119) ∧ w.cell? ⟨g, 6, none⟩ = some (.int .u32 2600822924) ∧ w.cell? ⟨g, 7, none⟩ = some (.int .u32 528734635) ∧ w.cell? ⟨g, 8, none⟩ = some (.int .u32 1541459225) :=
  ⟨h.cellH 0 (by decide), h.cellH 1 (by decide), h.cellH 2 (by decide), h.cellH 3 (by decide), h.cellH 4 (by decide), h.cellH 5 (by decide), h.cellH 6 (by decide), h.cellH 7 (by decide)⟩
end Go.Proofs.YtkcmohmfejmfoaaGreatDoor

/- The contract of the document's digest. -/
namespace Go.Proofs.YtkcmohmfejmfoaaGreatDoor
open Go.RowKit
set_option linter.unusedVariables false

/-- The first j of a list, zeros behind them. -/
def outN (l : List Int) (j : Nat) : List Int := l.take j ++ List.replicate (l.length - j) 0
theorem outN_zero (l : List Int) : outN l 0 = List.replicate l.length 0 := by simp [outN]
theorem outN_all (l : List Int) (j : Nat) (h : l.length ≤ j) : outN l j = l := by simp [outN, List.take_of_length_le h, Nat.sub_eq_zero_of_le h]
theorem outN_length (l : List Int) (j : Nat) : (outN l j).length = l.length := by simp [outN]; omega
theorem outN_set (l : List Int) (j : Nat) (h : j < l.length) : (outN l j).set j (l.getD j 0) = outN l (j + 1) := by
  unfold outN
  rw [List.set_append_right _ _ (by simp; omega), show l.take (j + 1) = l.take j ++ [l[j]] from List.take_succ_eq_append_getElem h]
  have e : l.length - j = (l.length - (j + 1)) + 1 := by omega
  rw [e, List.replicate_succ]
  have hm : j - (l.take j).length = 0 := by rw [List.length_take]; omega
  rw [hm, List.set_cons_zero, List.append_assoc]
  simp [List.getD, h, -List.take_append_getElem]
theorem tab_row1 (w : World) (gk ck : Nat) (o1 : Obj) : TB ((w.alloc (.cells (Value.slice (some ⟨gk, 0, none⟩) 64 ck :: hTab.map (Value.int .u32)).toArray 39)).alloc o1) w.heap.size (.slice (some ⟨gk, 0, none⟩) 64 ck) hTab := by
  have h : TB (w.alloc (.cells (Value.slice (some ⟨gk, 0, none⟩) 64 ck :: hTab.map (Value.int .u32)).toArray 39)) w.heap.size (.slice (some ⟨gk, 0, none⟩) 64 ck) hTab := heap_alloc_new w _
  exact h.alloc _

set_option maxRecDepth 100000 in
set_option maxHeartbeats 4000000 in
theorem refSum_any (a : Option Addr) (n cap gk ck : Nat) (bs : List Int) (w : World) (hin : InBytes w a n cap bs) (hn : n ≤ 20000) (hks : Seg .u32 w gk 0 kTab) (hgk : gk < w.heap.size) :
    Calls Tryz.prog 84 #[tabV gk ck, .slice a n cap] w (SumPost w bs) := by
  obtain ⟨i0, hi0, hz0, hz1, hz2⟩ := info_parts infoU8
  have hle0 := hin.le
  have hmax := hin.max
  simp only [maxLen] at hmax
  have hnl := nils_lt n
  have hbl := hin.len
  obtain ⟨T, hT1⟩ : ∃ T, n + (nils n + 9) = 64 * T := by
    obtain ⟨q, _, _, h3, _⟩ := whole_blocks n (n / 64) (n % 64) (by omega) (by omega)
    exact ⟨n / 64 + q, by omega⟩
  have hall : (bs ++ tailL n).length = n + (nils n + 9) := by rw [List.length_append, tailL_length, hbl]
  have hab : Bytes8 (bs ++ tailL n) := app_bytes hin.bytes (tailL_bytes n)
  have hcode : (n : Int) ≤ 1125899906842624 := by omega
  have HIN := Lib.hid hin
  have HKS := Lib.hid hks
  have HT1 := Lib.hid hT1
  have HALL := Lib.hid hall
  have HAB := Lib.hid hab
  have HBL := Lib.hid hbl
  clear hin hks hT1 hall hab hbl
  unfold tabV
  go_enter Tryz.func84, Tryz.ntmps84
  have hown0 : ((w.alloc (.cells (Value.slice (some ⟨gk, 0, none⟩) 64 ck :: hTab.map (Value.int .u32)).toArray 39)).alloc (.cells #[] 5)).ownsRow (w.heap.size + 1) 5 1 (.slice (some ⟨w.heap.size + 1, 0, none⟩) 0 0) 0 [] := by
    refine ⟨by simp, .inr ⟨w.heap.size + 1, 0, #[], rfl, Nat.le_refl _, ?_, Nat.le_refl _, by simp [maxLen], by simp, by simp⟩⟩
    have h := heap_alloc_new (w.alloc (.cells (Value.slice (some ⟨gk, 0, none⟩) 64 ck :: hTab.map (Value.int .u32)).toArray 39)) (.cells #[] 5)
    have e : (w.alloc (.cells (Value.slice (some ⟨gk, 0, none⟩) 64 ck :: hTab.map (Value.int .u32)).toArray 39)).heap.size = w.heap.size + 1 := by simp
    rw [e] at h
    exact h
  have HO0 := Lib.hid hown0
  have b2 : ∀ o1 o2, Below w.heap.size w ((w.alloc o1).alloc o2) := fun o1 o2 => ((Below.refl _ _).alloc (Nat.le_refl _) _).alloc (by simp) _
  have HB0 := Lib.hid b2
  have HT0 := Lib.hid (tab_row1 w gk ck)
  clear hown0 b2
  go_wp2_with (first
    | (at_builtin
       refine wpList_append_bytes' _ rfl (.tmp 10) (.tmp 11) 22 rfl (w.heap.size + 1) 5 i0 _ 1 Tryz.underlying22 hi0 hz0 hz1 hz2 rfl (w.heap.size + 1) 0 0 [] rfl HO0.out a n cap bs rfl (HIN.out.below (HB0.out _ _)) (by simp only [maxLen]; omega) (by omega) (by simp) ?_
       intro g1 c1 w1 hown1 hg1
       rw [List.nil_append, Nat.zero_add] at hown1
       have HO1 := Lib.hid hown1
       have HT1a : Hid (TB w1 w.heap.size (.slice (some ⟨gk, 0, none⟩) 64 ck) hTab) := Lib.hid ((HT0.out _).grown hg1 (by simp))
       have HB1 : Hid (Below w.heap.size w w1) := Lib.hid (below_only (HB0.out _ _) hg1 (by simp; omega) (by omega))
       have hsz1 := HT1a.out.lt
       clear hown1 hg1)
    | (go_at_call 92
       (with_reducible refine (refTail_any n _ hcode).mono ?_)
       rintro _ w2 ⟨v2, rfl, hown2, hb2⟩
       obtain ⟨gt, ct, hv2, hgt1, hgt2⟩ := hown2.form (by omega)
       subst hv2
       have HA2 := Lib.hid hown2
       have HO2 : Hid (w2.ownsRow (w.heap.size + 1) 5 1 (.slice (some ⟨g1, 0, none⟩) n c1) n (bs.map (Value.int .u8))) := Lib.hid (HO1.out.kept (only_below hb2 none) (.inr (by simp [Value.ownBlock])))
       have HT2 : Hid (TB w2 w.heap.size (.slice (some ⟨gk, 0, none⟩) 64 ck) hTab) := Lib.hid (HT1a.out.below hb2 HT1a.out.lt)
       have HB2 : Hid (Below w.heap.size w w2) := Lib.hid (HB1.out.trans (hb2.mono HB1.out.size))
       have hsz2 := HT2.out.lt
       have hg1 := HO2.out.lt g1 rfl
       clear hown2 hb2)
    | (at_builtin
       refine wpList_append_own _ rfl (.tmp 13) (.tmp 16) 22 rfl (w.heap.size + 1) 5 i0 _ 1 1 Tryz.underlying22 hi0 hz0 hz1 hz2 rfl (by omega) (.slice (some ⟨g1, 0, none⟩) n c1) n (bs.map (Value.int .u8)) rfl HO2.out ⟨gt, 0, none⟩ (nils n + 9) ct ((tailL n).map (Value.int .u8)) rfl (by simp [tailL_length]) (by exact (own_seg HA2.out).news) (by simp [Value.oneCell']) (by simp only [maxLen]; omega) (by omega) (by omega) ?_
       intro v3 w3 hown3 hg3 hat3
       obtain ⟨ga, cpa, hv3, hgga, hlta⟩ := hown3.form (by omega)
       rw [hv3]
       rw [hv3] at hown3
       rw [← List.map_append] at hown3
       have HO3 := Lib.hid hown3
       have HT3 : Hid (TB w3 w.heap.size (.slice (some ⟨gk, 0, none⟩) 64 ck) hTab) := Lib.hid (HT2.out.grown hg3 (by simp [Value.ownBlock]; omega))
       have HB3 : Hid (Below w.heap.size w w3) := Lib.hid (HB2.out.grown hg3 HB2.out.size (fun j hj => by have := (HO2.out.lt j hj).1; omega))
       have hsz3 := HT3.out.lt
       obtain ⟨t1, t2, t3, t4, t5, t6, t7, t8⟩ := tb_cells HT3.out
       clear hown3 hg3 hat3 hv3)
    | (refine wpList_store_ints rfl 37 (.tmp 6) (.tmp 19) rfl w3.heap.size .u32 hTab rfl rfl 37 [0, 0, 0, 0, 0, 0, 0, 0] (Row.new w3 37 [0, 0, 0, 0, 0, 0, 0, 0]) sizeA8 rfl ?_
       intro w5 hr5 hg5 hs5
       have HR5 := Lib.hid hr5
       have hga := HO3.out.lt ga rfl
       have HO5 : Hid (w5.ownsRow (w.heap.size + 1) 5 1 (.slice (some ⟨ga, 0, none⟩) (n + (nils n + 9)) cpa) (n + (nils n + 9)) ((bs ++ tailL n).map (Value.int .u8))) := Lib.hid ((HO3.out.alloc _).kept hg5 (.inr (by simp [Value.ownBlock]; omega)))
       have HT5 : Hid (TB w5 w.heap.size (.slice (some ⟨gk, 0, none⟩) 64 ck) hTab) := Lib.hid ((HT3.out.alloc _).grown hg5 (by simp; omega))
       have HB5 : Hid (Below w.heap.size w w5) := Lib.hid (below_only (HB3.out.alloc HB3.out.size _) hg5 (by have := HB3.out.size; simp; omega) HB3.out.size)
       clear hr5 hg5 hs5 t1 t2 t3 t4 t5 t6 t7 t8))
  have hoT := HO5.out
  rw [HT1.out] at hoT
  have HOT := Lib.hid hoT
  clear hoT HO5 HO3 HO2
  rw [HT1.out]
  obtain ⟨gv, hgv⟩ : ∃ gv, gv = w3.heap.size := ⟨_, rfl⟩
  rw [← hgv]
  have hgv2 : w.heap.size + 1 ≤ gv := by omega
  have hgav : ga < gv := by rw [hgv]; exact hga.2
  have hga1 : w.heap.size + 1 ≤ ga := hga.1
  have HR5' : Hid (Row .u32 w5 37 gv hTab) := Lib.hid (by rw [hgv]; exact HR5.out)
  clear hgv HR5 hga HA2 HT2 HB2 HT3 HB3 HO0 HB0 HT0 HO1 HT1a HB1
  go_loopw [7] (fun i wx => ∃ k : Nat, k ≤ T ∧ i = .int .i64 (64 * (k : Int)) ∧ Row .u32 wx 37 gv (stepsL hTab (bs ++ tailL n) k) ∧ TB wx w.heap.size (.slice (some ⟨gk, 0, none⟩) 64 ck) hTab ∧ wx.ownsRow (w.heap.size + 1) 5 1 (.slice (some ⟨ga, 0, none⟩) (64 * T) cpa) (64 * T) ((bs ++ tailL n).map (Value.int .u8)) ∧ Below w.heap.size w wx) (fun i _ => 64 * T - (intOf i).toNat)
  case atStart => exact ⟨0, by omega, rfl, HR5'.out, HT5.out, HOT.out, HB5.out⟩
  case round =>
    obtain ⟨k, hk, rfl, hr, ht, ho, hb⟩ := hrel
    have HR := Lib.hid hr
    have HT := Lib.hid ht
    have HO := Lib.hid ho
    have HB := Lib.hid hb
    clear hr ht ho hb
    have hT2 := HT1.out
    by_cases hlt : k < T
    · have hl8 : (stepsL hTab (bs ++ tailL n) k).length = 8 := stepsL_length rfl _ k
      have hinA := InBytes.of_own HO.out HAB.out
      obtain ⟨g', off', e', hgA, hsegA⟩ := hinA.place (by omega)
      injection e' with e'
      injection e' with e1 e2
      subst e1
      subst e2
      have hcpa := hinA.le
      have hcpm := hinA.max
      simp only [maxLen] at hcpm
      obtain ⟨y0, y1, y2, y3, y4, y5, y6, y7, hy⟩ := list_8 (stepL (stepsL hTab (bs ++ tailL n) k) (((bs ++ tailL n).drop (64 * k)).take 64)) (stepL_length hl8 _)
      have hnx : stepsL hTab (bs ++ tailL n) (k + 1) = [y0, y1, y2, y3, y4, y5, y6, y7] := hy
      obtain ⟨x0, x1, x2, x3, x4, x5, x6, x7, hx⟩ := list_8 (stepsL hTab (bs ++ tailL n) k) hl8
      have hc : ∀ W, Below wr.heap.size wr W → Calls Tryz.prog 93 #[.agg #[.slice (some ⟨gk, 0, none⟩) 64 ck, .int .u32 1779033703, .int .u32 3144134277, .int .u32 1013904242, .int .u32 2773480762, .int .u32 1359893119, .int .u32 2600822924, .int .u32 528734635, .int .u32 1541459225], .agg #[.int .u32 x0, .int .u32 x1, .int .u32 x2, .int .u32 x3, .int .u32 x4, .int .u32 x5, .int .u32 x6, .int .u32 x7], .slice (some ⟨ga, 64 * k, none⟩) 64 (cpa - 64 * k)] W (fun e w' => e = .returned (.agg #[.int .u32 y0, .int .u32 y1, .int .u32 y2, .int .u32 y3, .int .u32 y4, .int .u32 y5, .int .u32 y6, .int .u32 y7]) ∧ Below W.heap.size W w') := fun W hW => by
        have hbW : Below w.heap.size w W := HB.out.trans (hW.mono HB.out.size)
        have h := refStep_any ga (0 + 64 * k) (cpa - 64 * k) gk ck _ (((bs ++ tailL n).drop (64 * k)).take 64) W hl8 (stepsL_bd hTab_bd _ k) (by have := HALL.out; simp only [List.length_take, List.length_drop]; omega) (fun z hz => HAB.out z (List.mem_of_mem_drop (List.mem_of_mem_take hz))) (((hsegA.below hW hgA).drop (64 * k)).take 64) (Nat.lt_of_lt_of_le hgA hW.size) (HKS.out.below hbW hgk) (Nat.lt_of_lt_of_le hgk hbW.size)
        unfold StepPost at h
        rw [hy, hx, Nat.zero_add] at h
        exact h
      have hr := HR.out
      rw [hx] at hr
      have HC := Lib.hid hc
      have HNX := Lib.hid hnx
      have HR2 := Lib.hid hr
      have c0 := hr.cell 0 (by simp)
      have c1 := hr.cell 1 (by simp)
      have c2 := hr.cell 2 (by simp)
      have c3 := hr.cell 3 (by simp)
      have c4 := hr.cell 4 (by simp)
      have c5 := hr.cell 5 (by simp)
      have c6 := hr.cell 6 (by simp)
      have c7 := hr.cell 7 (by simp)
      simp only [List.getElem_cons_zero, List.getElem_cons_succ] at c0 c1 c2 c3 c4 c5 c6 c7
      have t0 := HT.out.cell0
      obtain ⟨t1, t2, t3, t4, t5, t6, t7, t8⟩ := tb_cells HT.out
      have k1 : 64 * (k : Int) < 64 * (T : Int) := by omega
      have k2 : (64 * (k : Int) + 64).toNat = 64 * k + 64 := by omega
      have k3 : IntKind.i64.wrap (64 * (k : Int) + 64) = 64 * (k : Int) + 64 := IntWalk.i64_in _ (by omega)
      have k4 : (0 : Int) ≤ 64 * (k : Int) := by omega
      have k5 : 64 * (k : Int) + 64 ≤ (cpa : Int) := by omega
      have k6 : (64 * (k : Int)).toNat = 64 * k := by omega
      have k7 : 64 * (k : Int) ≤ 64 * (k : Int) + 64 := by omega
      have k8 : ¬ cpa = 64 * k := by omega
      have k9 : gv < wr.heap.size := HR2.out.lt
      clear hl8 hinA hsegA hy hnx hx hc hr hT2
      go_wp2_with fail
      go_region_with (first
        | (go_at_call 93
           (with_reducible refine (HC.out _ ?_).mono ?_)
           · exact (Below.refl _ _).drew
           rintro _ w7 ⟨rfl, hb7⟩
           have HR3 : Hid (Row .u32 w7 37 gv [x0, x1, x2, x3, x4, x5, x6, x7]) := Lib.hid (HR2.out.drew.below hb7 HR2.out.lt)
           have HT3 : Hid (TB w7 w.heap.size (.slice (some ⟨gk, 0, none⟩) 64 ck) hTab) := Lib.hid (TB.below (w := wr.drew) HT.out hb7 HT.out.lt)
           have HO3 : Hid (w7.ownsRow (w.heap.size + 1) 5 1 (.slice (some ⟨ga, 0, none⟩) (64 * T) cpa) (64 * T) ((bs ++ tailL n).map (Value.int .u8))) := Lib.hid ((own_drew' HO.out).kept (only_below hb7 none) (.inr (by simp [Value.ownBlock])))
           have HB3 : Hid (Below w.heap.size w w7) := Lib.hid (HB.out.drew.trans (hb7.mono HB.out.size))
           have q0 := HR3.out.cell 0 (by simp)
           have q1 := HR3.out.cell 1 (by simp)
           have q2 := HR3.out.cell 2 (by simp)
           have q3 := HR3.out.cell 3 (by simp)
           have q4 := HR3.out.cell 4 (by simp)
           have q5 := HR3.out.cell 5 (by simp)
           have q6 := HR3.out.cell 6 (by simp)
           have q7 := HR3.out.cell 7 (by simp)
           have qf := fun o => HR3.out.frozen o
           clear hb7))
      all_goals
        obtain ⟨w8, hw8⟩ : ∃ w8, w8 = ((((((((w7.setCell ⟨gv, 0, none⟩ (.int .u32 y0)).setCell ⟨gv, 1, none⟩ (.int .u32 y1)).setCell ⟨gv, 2, none⟩ (.int .u32 y2)).setCell ⟨gv, 3, none⟩ (.int .u32 y3)).setCell ⟨gv, 4, none⟩ (.int .u32 y4)).setCell ⟨gv, 5, none⟩ (.int .u32 y5)).setCell ⟨gv, 6, none⟩ (.int .u32 y6)).setCell ⟨gv, 7, none⟩ (.int .u32 y7)) := ⟨_, rfl⟩
        rw [← hw8]
        have HX8 : Hid (Row .u32 w8 37 gv [y0, y1, y2, y3, y4, y5, y6, y7]) := Lib.hid (by rw [hw8]; exact ((((((((HR3.out.set 0 y0).set 1 y1).set 2 y2).set 3 y3).set 4 y4).set 5 y5).set 6 y6).set 7 y7))
        have HT8 : Hid (TB w8 w.heap.size (.slice (some ⟨gk, 0, none⟩) 64 ck) hTab) := Lib.hid (by rw [hw8]; exact ((((((((HT3.out.far (p := ⟨gv, 0, none⟩) (by simp; omega) (.int .u32 y0)).far (p := ⟨gv, 1, none⟩) (by simp; omega) (.int .u32 y1)).far (p := ⟨gv, 2, none⟩) (by simp; omega) (.int .u32 y2)).far (p := ⟨gv, 3, none⟩) (by simp; omega) (.int .u32 y3)).far (p := ⟨gv, 4, none⟩) (by simp; omega) (.int .u32 y4)).far (p := ⟨gv, 5, none⟩) (by simp; omega) (.int .u32 y5)).far (p := ⟨gv, 6, none⟩) (by simp; omega) (.int .u32 y6)).far (p := ⟨gv, 7, none⟩) (by simp; omega) (.int .u32 y7)))
        have hgrow : w7.grownBy w8 (some gv) := by rw [hw8]; exact (only_set (only_set (only_set (only_set (only_set (only_set (only_set (only_set (only_refl w7 (some gv)) 0 (.int .u32 y0)) 1 (.int .u32 y1)) 2 (.int .u32 y2)) 3 (.int .u32 y3)) 4 (.int .u32 y4)) 5 (.int .u32 y5)) 6 (.int .u32 y6)) 7 (.int .u32 y7))
        have HO8 : Hid (w8.ownsRow (w.heap.size + 1) 5 1 (.slice (some ⟨ga, 0, none⟩) (64 * T) cpa) (64 * T) ((bs ++ tailL n).map (Value.int .u8))) := Lib.hid (HO3.out.kept hgrow (.inr (by simp [Value.ownBlock]; omega)))
        have HB8 : Hid (Below w.heap.size w w8) := Lib.hid (below_only HB3.out hgrow HB3.out.size (by omega))
        clear hw8 hgrow q0 q1 q2 q3 q4 q5 q6 q7 qf c0 c1 c2 c3 c4 c5 c6 c7 t0 t1 t2 t3 t4 t5 t6 t7 t8
        go_wp2_with fail
        go_roundw
        case rel => exact ⟨k + 1, by omega, by congr 1, by rw [HNX.out]; exact HX8.out, HT8.out, HO8.out, HB8.out⟩
        case measure => simp [intOf]; omega
    · obtain rfl : k = T := by omega
      have hrl8 : (stepsL hTab (bs ++ tailL n) k).length = 8 := stepsL_length rfl _ k
      have hsum : sumL bs = bytesL (stepsL hTab (bs ++ tailL n) k) := by
        unfold sumL
        rw [HBL.out, show (n + nils n + 9) / 64 = k by omega]
      have hsb := stepsL_bd hTab_bd (bs ++ tailL n) k
      generalize stepsL hTab (bs ++ tailL n) k = st at *
      have HSUM := Lib.hid hsum
      have HL8 := Lib.hid hrl8
      have HSB := Lib.hid hsb
      have k1 : ¬ 64 * (k : Int) < 64 * (k : Int) := by omega
      clear hrl8 hsum hsb hT2
      go_wp2_with (first
        | (at_make
           refine wpList_make_ints _ rfl (.const (.int .i64 32)) (.const (.int .i64 32)) 22 rfl 5 i0 .u8 Tryz.underlying22 hi0 hz0 hz1 .i64 .i64 _ _ 32 rfl rfl (by omega) (by omega) (by rw [hz2]; omega) (by simp only [maxLen]; omega) ?_
           intro w8 hr8 hb8 hs8
           have HR8 : Hid (Row .u8 w8 5 wr.heap.size (outN (bytesL st) 0)) := Lib.hid (by rw [outN_zero, bytesL_length, HL8.out]; exact hr8)
           have HV8 : Hid (Row .u32 w8 37 gv st) := Lib.hid (HR.out.below hb8 HR.out.lt)
           have HB8 : Hid (Below w.heap.size w w8) := Lib.hid (HB.out.trans (hb8.mono HB.out.size))
           have hgvr : gv < wr.heap.size := HR.out.lt
           have hbs := HB.out.size
           clear hr8 hb8 hs8))
      obtain ⟨go, hgo⟩ : ∃ go, go = wr.heap.size := ⟨_, rfl⟩
      rw [← hgo] at hgvr hbs ⊢
      have HR8' : Hid (Row .u8 w8 5 go (outN (bytesL st) 0)) := Lib.hid (by rw [hgo]; exact HR8.out)
      clear HR8 hgo
      go_loopw [9] (fun i wx => ∃ j : Nat, j ≤ 32 ∧ i = .int .i64 j ∧ Row .u8 wx 5 go (outN (bytesL st) j) ∧ Row .u32 wx 37 gv st ∧ Below w.heap.size w wx) (fun i _ => 32 - (intOf i).toNat)
      case atStart => exact ⟨0, by omega, rfl, HR8'.out, HV8.out, HB8.out⟩
      case round =>
        obtain ⟨j, hj, rfl, hr, hv, hb⟩ := hrel
        clear HR HB HV8 HR8' HB8
        have HR := Lib.hid hr
        have HV := Lib.hid hv
        have HB := Lib.hid hb
        clear hr hv hb
        by_cases hlt : j < 32
        · have e1 := HR.out.cellD j (by rw [outN_length, bytesL_length, HL8.out]; omega)
          have f1 := HR.out.frozen j
          have e2 := HV.out.cellD (j / 4) (by rw [HL8.out]; omega)
          have hst : Row .u8 (wr.setCell ⟨go, j, none⟩ (.int .u8 (st.getD (j / 4) 0 / 2 ^ (24 - 8 * (j % 4)) % 256))) 5 go (outN (bytesL st) (j + 1)) := by
            have h := HR.out.set j ((bytesL st).getD j 0)
            rw [outN_set _ j (by rw [bytesL_length, HL8.out]; omega), bytesL_at st j (by rw [HL8.out]; omega)] at h
            exact h
          have bx := word_at HSB.out (j / 4)
          generalize st.getD (j / 4) 0 = x at *
          generalize (outN (bytesL st) j).getD j 0 = ov at *
          have HST := Lib.hid hst
          have jb : (j : Int) < 32 := by omega
          clear hst
          go_wp2_with fail
          refine ⟨⟨j + 1, by omega, by go_num, HST.out, HV.out.far (p := ⟨go, j, none⟩) (by simp; omega) _, HB.out.setCell (p := ⟨go, j, none⟩) hbs _⟩, by simp [intOf]; omega⟩
        · obtain rfl : j = 32 := by omega
          go_wp2_with fail
          go_ret
          have hr := HR.out
          rw [outN_all _ 32 (by rw [bytesL_length, HL8.out]; omega), ← HSUM.out] at hr
          exact ⟨go, hbs, rfl, hr, HB.out⟩
end Go.Proofs.YtkcmohmfejmfoaaGreatDoor

/- The contract of the document's digest. -/
namespace Go.Proofs.YtkcmohmfejmfoaaGreatDoor
open Go.RowKit
set_option linter.unusedVariables false

/-- A slice of new memory: the first k bytes of a sum. -/
def OfPost (w : World) (k : Nat) (bs : List Int) (e : Ending) (w' : World) : Prop :=
  ∃ g, w.heap.size ≤ g ∧ e = .returned (.slice (some ⟨g, 0, none⟩) k 32) ∧ Row .u8 w' 5 g (sumL bs) ∧ Below w.heap.size w w'

set_option maxRecDepth 100000 in
set_option maxHeartbeats 4000000 in
theorem refOf_any (k : Nat) (hk1 : 1 ≤ k) (hk2 : k ≤ 32) (a : Option Addr) (n cap gk ck : Nat) (bs : List Int) (w : World) (hin : InBytes w a n cap bs) (hn : n ≤ 20000) (hks : Seg .u32 w gk 0 kTab) (hgk : gk < w.heap.size) :
    Calls Tryz.prog 70 #[tabV gk ck, .int .i64 k, .slice a n cap] w (OfPost w k bs) := by
  have hs : ∀ W, Below w.heap.size w W → Calls Tryz.prog 84 #[.agg (Value.slice (some ⟨gk, 0, none⟩) 64 ck :: hTab.map (Value.int .u32)).toArray, .slice a n cap] W (SumPost W bs) :=
    fun W hW => refSum_any a n cap gk ck bs W (hin.below hW) hn (hks.below hW hgk) (Nat.lt_of_lt_of_le hgk hW.size)
  have HS := Lib.hid hs
  have hk3 : (k : Int) ≤ 32 := by omega
  have hk4 : (0 : Int) ≤ (k : Int) := by omega
  clear hin hks hs
  unfold tabV
  go_enter Tryz.func70, Tryz.ntmps70
  go_wp2_with (first
    | (refine wpList_load_row rfl 39 (.tmp 3) rfl w.heap.size rfl 39 _ _ _ (heap_alloc_new w _) Tryz.underlying39 rfl (by kernel_rfl) ?_)
    | (go_at_call 84
       (with_reducible refine (HS.out _ ?_).mono ?_)
       · exact (Below.refl _ _).alloc (Nat.le_refl _) _
       rintro _ w1 ⟨g1, hg1, rfl, hr1, hb1⟩
       have H1 := Lib.hid (And.intro hg1 (And.intro hr1 hb1))
       clear hg1 hr1 hb1))
  go_ret
  obtain ⟨hg1, hr1, hb1⟩ := H1.out
  refine ⟨g1, ?_, rfl, hr1, ?_⟩
  · have h := hg1
    simp at h
    omega
  · exact ((Below.refl w.heap.size w).alloc (Nat.le_refl _) _).trans (hb1.mono (by simp))
end Go.Proofs.YtkcmohmfejmfoaaGreatDoor

/- The contract of the document's digest of a tree. -/
namespace Go.Proofs.YtkcmohmfejmfoaaGreatDoor
open Go.RowKit
set_option linter.unusedVariables false

/-- What the document's digest needs of a world: the tables' box, the tree's box, the constants. -/
structure DW (w W : World) (gk ck : Nat) (h : TH) : Prop where
  tab : TB W w.heap.size (.slice (some ⟨gk, 0, none⟩) 64 ck) hTab
  box : Box W 25 (w.heap.size + 1) h
  ks : Seg .u32 W gk 0 kTab
  b : Below w.heap.size w W
  gk : gk < w.heap.size
theorem DW.below {w W W' : World} {gk ck : Nat} {h : TH} (d : DW w W gk ck h) (hb : Below W.heap.size W W') : DW w W' gk ck h :=
  ⟨d.tab.below hb d.tab.lt, d.box.below hb d.box.lt, d.ks.below hb (Nat.lt_of_lt_of_le d.gk d.b.size), d.b.trans (hb.mono d.b.size), d.gk⟩
theorem DW.drew {w W : World} {gk ck : Nat} {h : TH} (d : DW w W gk ck h) : DW w W.drew gk ck h := d.below (Below.refl _ _).drew
theorem DW.nine {w W : World} {gk ck : Nat} {h : TH} (d : DW w W gk ck h) : W.cell? ⟨w.heap.size, 0, none⟩ = some (.slice (some ⟨gk, 0, none⟩) 64 ck) ∧ W.cell? ⟨w.heap.size, 1, none⟩ = some (.int .u32 1779033703) ∧ W.cell? ⟨w.heap.size, 2, none⟩ = some (.int .u32 3144134277) ∧ W.cell? ⟨w.heap.size, 3, none⟩ = some (.int .u32 1013904242) ∧ W.cell? ⟨w.heap.size, 4, none⟩ = some (.int .u32 2773480762) ∧ W.cell? ⟨w.heap.size, 5, none⟩ = some (.int .u32 1359893119) ∧ W.cell? ⟨w.heap.size, 6, none⟩ = some (.int .u32 2600822924) ∧ W.cell? ⟨w.heap.size, 7, none⟩ = some (.int .u32 528734635) ∧ W.cell? ⟨w.heap.size, 8, none⟩ = some (.int .u32 1541459225) := ⟨d.tab.cell0, tb_cells d.tab⟩
theorem DW.of {w W : World} {gk ck : Nat} {h : TH} (d : DW w W gk ck h) {k : Nat} (hk1 : 1 ≤ k) (hk2 : k ≤ 32) {a : Option Addr} {n cap : Nat} {bs : List Int} (hin : InBytes W a n cap bs) (hn : n ≤ 20000) :
    Calls Tryz.prog 70 #[.agg #[.slice (some ⟨gk, 0, none⟩) 64 ck, .int .u32 1779033703, .int .u32 3144134277, .int .u32 1013904242, .int .u32 2773480762, .int .u32 1359893119, .int .u32 2600822924, .int .u32 528734635, .int .u32 1541459225], .int .i64 k, .slice a n cap] W (OfPost W k bs) :=
  refOf_any k hk1 hk2 a n cap gk ck bs W hin hn d.ks (Nat.lt_of_lt_of_le d.gk d.b.size)

/-- The digest and true, or something and false. -/
def DigPost (w : World) (k : Nat) (t : Tr) (e : Ending) (w' : World) : Prop :=
  ∃ a n c is, e = .returned (.tuple #[.slice a n c, .bool is]) ∧ ((is = true ∧ ∃ zs, digT k t = some zs ∧ InBytes w' a n c zs) ∨ (is = false ∧ digT k t = none)) ∧ Below w.heap.size w w'
set_option maxRecDepth 100000 in
set_option maxHeartbeats 8000000 in
theorem refDigest_any (k : Nat) (hk1 : 1 ≤ k) (hk2 : k ≤ 32) (gk ck : Nat) : ∀ (t : Tr) (h : TH) (w : World), InTree w h t → formedT t = true → Seg .u32 w gk 0 kTab → gk < w.heap.size →
    Calls Tryz.prog 49 #[tabV gk ck, .int .i64 k, h.v] w (DigPost w k t) := by
  intro t
  induction t using Tr.ind with
  | h t ih =>
  intro h w ht hf hks hgk
  obtain ⟨hpb, hfk⟩ := formed_kids hf
  unfold TH.v tabV
  obtain ⟨H, hp⟩ := ht.parts
  have hkl := hp.key.len
  have hvl := hp.val.len
  have hdl := hp.dig.len
  have htl := hp.len
  have HK := Lib.hid hp.hk
  have htc := hp.sl.le
  have HP := Lib.hid hp
  have IH := Lib.hid ih
  clear hp ht ih
  have HPB := Lib.hid (partB_head HP.out)
  have HF := Lib.hid (And.intro hpb hfk)
  have hd0 : DW w ((w.alloc (.cells (Value.slice (some ⟨gk, 0, none⟩) 64 ck :: hTab.map (Value.int .u32)).toArray 39)).alloc (.cells #[.int .i64 h.k, .slice h.ka h.kn h.kc, .slice h.va h.vn h.vc, .slice h.da h.dn h.dc, .slice h.ta h.tn h.tc] 25)) gk ck h := by
    have b1 : Below w.heap.size w (w.alloc (.cells (Value.slice (some ⟨gk, 0, none⟩) 64 ck :: hTab.map (Value.int .u32)).toArray 39)) := (Below.refl _ _).alloc (Nat.le_refl _) _
    have b2 := b1.alloc b1.size (.cells #[.int .i64 h.k, .slice h.ka h.kn h.kc, .slice h.va h.vn h.vc, .slice h.da h.dn h.dc, .slice h.ta h.tn h.tc] 25)
    refine ⟨?_, ?_, hks.below b2 hgk, b2, hgk⟩
    · exact TB.below (heap_alloc_new w _) ((Below.refl _ _).alloc (Nat.le_refl _) _) (by simp)
    · have := Box.new (w.alloc (.cells (Value.slice (some ⟨gk, 0, none⟩) 64 ck :: hTab.map (Value.int .u32)).toArray 39)) 25 h
      simpa using this
  have HD := Lib.hid hd0
  have c1 : 1 ≤ (k : Int) := by omega
  clear hd0 hks hf hpb hfk
  go_enter Tryz.func49, Tryz.ntmps49
  go_upto_region 1 with fail
  generalize (w.alloc (.cells (Value.slice (some ⟨gk, 0, none⟩) 64 ck :: hTab.map (Value.int .u32)).toArray 39)).alloc (.cells #[.int .i64 h.k, .slice h.ka h.kn h.kc, .slice h.va h.vn h.vc, .slice h.da h.dn h.dc, .slice h.ta h.tn h.tc] 25) = w0 at *
  obtain ⟨x0, x1, x2, x3, x4⟩ := HD.out.box.cells
  have hnine := HD.out.nine
  obtain ⟨t0, t1, t2, t3, t4, t5, t6, t7, t8⟩ := hnine
  have hk := HK.out
  have HPK := Lib.hid (part_kids HF.out.1)
  cases e0 : (h.k == 0)
  rotate_left
  · have HE : Hid (t.k = 0) := Lib.hid (by rw [← HK.out]; simpa using e0)
    clear hk
    have hin3 : InBytes (w0.alloc (.cells #[.int .u8 3] 5)) (some ⟨w0.heap.size, 0, none⟩) 1 1 [3] := InBytes.of_own (own_new w0 5 .u8 [3] w0.heap.size (Nat.le_refl _) (by simp [maxLen])) (fun z hz => by simp at hz; omega)
    have HI3 := Lib.hid hin3
    clear hin3
    go_wp2_with (first
      | (go_at_call 70
         (with_reducible refine ((HD.out.below ((Below.refl _ _).alloc (Nat.le_refl _) _)).of hk1 hk2 HI3.out (by omega)).mono ?_)
         rintro _ w1 ⟨g1, hg1, rfl, hr1, hb1⟩
         have HB1 : Hid (Below w.heap.size w w1) := Lib.hid ((HD.out.below ((Below.refl _ _).alloc (Nat.le_refl _) _)).below hb1).b
         have HR1 := Lib.hid (of_in32 hr1 hk2)
         clear hg1 hr1 hb1))
    go_ret2
    exact ⟨_, _, _, true, rfl, .inl ⟨rfl, _, digT_0 HE.out, HR1.out⟩, HB1.out⟩
  cases e3 : (h.k == 3)
  rotate_left
  · have HE : Hid (t.k = 3) := Lib.hid (by rw [← HK.out]; simpa using e3)
    clear hk
    go_upto_region 5 with fail
    refine wp_region_held_drew (S := (fun W => W.cell? ⟨w.heap.size + 1, 3, none⟩ = some (.slice h.da h.dn h.dc))) (by kernel_rfl) x3 (fun hHeld => ?_)
    refine take_w (i := 0) (oi := ?oZ1) (v := ?vZ1) ?hiZ1 (by kernel_rfl) (by kernel_rfl) (by kernel_rfl) ?hQZ1 ?hwZ1 ?hyZ1 (by assumption) ?restZ1
    case hiZ1 => (simp only [List.getElem?_toArray, List.getElem?_cons_zero] <;> rfl)
    case hQZ1 => exact (fun _ _ _ h => h)
    case hwZ1 => rfl
    case hyZ1 => (intro w hSw; (try dsimp only at hSw); go_simp; try with_reducible rfl)
    (try simp only [Act.put, List.setIfInBounds_toArray, List.set_cons_zero, List.set_cons_succ])
    refine take_w (i := 1) (oi := ?oZ2) (v := ?vZ2) ?hiZ2 (by kernel_rfl) (by kernel_rfl) (by kernel_rfl) ?hQZ2 ?hwZ2 ?hyZ2 (by assumption) ?restZ2
    case hiZ2 => (simp only [List.getElem?_toArray, List.getElem?_cons_succ, List.getElem?_cons_zero] <;> rfl)
    case hQZ2 => exact (fun _ _ _ h => h)
    case hwZ2 => rfl
    case hyZ2 => (intro w hSw; (try dsimp only at hSw); go_simp; try with_reducible rfl)
    (try simp only [Act.put, List.setIfInBounds_toArray, List.set_cons_zero, List.set_cons_succ])
    refine take_w (i := 2) (oi := ?oZ3) (v := ?vZ3) ?hiZ3 (by kernel_rfl) (by kernel_rfl) (by kernel_rfl) ?hQZ3 ?hwZ3 ?hyZ3 (by assumption) ?restZ3
    case hiZ3 => (simp only [List.getElem?_toArray, List.getElem?_cons_succ, List.getElem?_cons_zero] <;> rfl)
    case hQZ3 => exact (fun _ _ _ h => h)
    case hwZ3 => rfl
    case hyZ3 => (intro w hSw; (try dsimp only at hSw); go_simp; try with_reducible rfl)
    (try simp only [Act.put, List.setIfInBounds_toArray, List.set_cons_zero, List.set_cons_succ])
    refine take_w (i := 3) (oi := ?oZ4) (v := ?vZ4) ?hiZ4 (by kernel_rfl) (by kernel_rfl) (by kernel_rfl) ?hQZ4 ?hwZ4 ?hyZ4 (by assumption) ?restZ4
    case hiZ4 => (simp only [List.getElem?_toArray, List.getElem?_cons_succ, List.getElem?_cons_zero] <;> rfl)
    case hQZ4 => exact (fun _ _ _ h => h)
    case hwZ4 => rfl
    case hyZ4 => (intro w hSw; (try dsimp only at hSw); go_simp; try with_reducible rfl)
    (try simp only [Act.put, List.setIfInBounds_toArray, List.set_cons_zero, List.set_cons_succ])
    refine take_w (i := 4) (oi := ?oZ5) (v := ?vZ5) ?hiZ5 (by kernel_rfl) (by kernel_rfl) (by kernel_rfl) ?hQZ5 ?hwZ5 ?hyZ5 (by assumption) ?restZ5
    case hiZ5 => (simp only [List.getElem?_toArray, List.getElem?_cons_succ, List.getElem?_cons_zero] <;> rfl)
    case hQZ5 => exact (fun _ _ _ h => h)
    case hwZ5 => rfl
    case hyZ5 => (intro w hSw; (try dsimp only at hSw); go_simp; try with_reducible rfl)
    (try simp only [Act.put, List.setIfInBounds_toArray, List.set_cons_zero, List.set_cons_succ])
    refine take_w (i := 5) (oi := ?oZ6) (v := ?vZ6) ?hiZ6 (by kernel_rfl) (by kernel_rfl) (by kernel_rfl) ?hQZ6 ?hwZ6 ?hyZ6 (by assumption) ?restZ6
    case hiZ6 => (simp only [List.getElem?_toArray, List.getElem?_cons_succ, List.getElem?_cons_zero] <;> rfl)
    case hQZ6 => exact (fun _ _ _ h => h)
    case hwZ6 => rfl
    case hyZ6 => (intro w hSw; (try dsimp only at hSw); go_simp; try with_reducible rfl)
    (try simp only [Act.put, List.setIfInBounds_toArray, List.set_cons_zero, List.set_cons_succ])
    refine take_w (i := 6) (oi := ?oZ7) (v := ?vZ7) ?hiZ7 (by kernel_rfl) (by kernel_rfl) (by kernel_rfl) ?hQZ7 ?hwZ7 ?hyZ7 (by assumption) ?restZ7
    case hiZ7 => (simp only [List.getElem?_toArray, List.getElem?_cons_succ, List.getElem?_cons_zero] <;> rfl)
    case hQZ7 => exact (fun _ _ _ h => h)
    case hwZ7 => rfl
    case hyZ7 => (intro w hSw; (try dsimp only at hSw); go_simp; try with_reducible rfl)
    (try simp only [Act.put, List.setIfInBounds_toArray, List.set_cons_zero, List.set_cons_succ])
    refine take_w (i := 7) (oi := ?oZ8) (v := ?vZ8) ?hiZ8 (by kernel_rfl) (by kernel_rfl) (by kernel_rfl) ?hQZ8 ?hwZ8 ?hyZ8 (by assumption) ?restZ8
    case hiZ8 => (simp only [List.getElem?_toArray, List.getElem?_cons_succ, List.getElem?_cons_zero] <;> rfl)
    case hQZ8 => exact (fun _ _ _ h => h)
    case hwZ8 => rfl
    case hyZ8 => (intro w hSw; (try dsimp only at hSw); go_simp; try with_reducible rfl)
    (try simp only [Act.put, List.setIfInBounds_toArray, List.set_cons_zero, List.set_cons_succ])
    refine take_w (i := 8) (oi := ?oZ9) (v := ?vZ9) ?hiZ9 (by kernel_rfl) (by kernel_rfl) (by kernel_rfl) ?hQZ9 ?hwZ9 ?hyZ9 (by assumption) ?restZ9
    case hiZ9 => (simp only [List.getElem?_toArray, List.getElem?_cons_succ, List.getElem?_cons_zero] <;> rfl)
    case hQZ9 => exact (fun _ _ _ h => h)
    case hwZ9 => rfl
    case hyZ9 => (intro w hSw; (try dsimp only at hSw); go_simp; try with_reducible rfl)
    (try simp only [Act.put, List.setIfInBounds_toArray, List.set_cons_zero, List.set_cons_succ])
    refine wpAnyH_done (by kernel_rfl) ?_ _
    
    go_wp2_with fail
    go_ret2
    refine ⟨_, _, _, _, rfl, ?_, HD.out.drew.b⟩
    rw [digT_3 HE.out, hdl]
    by_cases hdk : h.dn = k
    · exact .inl ⟨by simp [hdk], _, by rw [if_pos hdk], HP.out.dig.below HD.out.drew.b⟩
    · exact .inr ⟨by simp; omega, by rw [if_neg hdk]⟩
  have hk0 : t.k ≠ 0 := by rw [← hk]; simpa using e0
  have hk3 : t.k ≠ 3 := by rw [← hk]; simpa using e3
  have hp2 := HPK.out
  have h2 : t.kids.length = 2 := by omega
  have HH := Lib.hid (And.intro hk0 (And.intro hk3 h2))
  have htn : h.tn = 2 := by omega
  have HTN := Lib.hid htn
  clear hk hk0 hk3 hp2 HPK htn
  go_upto_if 35 with fail
  go_cut [8] (fun s8 wx => ∃ a n c, s8 = .slice a n c ∧ InBytes wx a n c (valT k t) ∧ DW w wx gk ck h)
  case first =>
    have hk := HK.out
    cases e1 : (h.k == 1)
    · have HE : Hid (t.k ≠ 1) := Lib.hid (by rw [← hk]; simpa using e1)
      clear hk
      go_wp2_with fail
      go_meet
      exact ⟨_, _, _, rfl, by unfold valT; rw [if_neg HE.out]; exact HP.out.dig.below HD.out.b, HD.out⟩
    · have HE : Hid (t.k = 1) := Lib.hid (by rw [← hk]; simpa using e1)
      have hpb := HPB.out
      rw [HF.out.1, if_neg (by simpa using e0), if_pos (by simpa using e1)] at hpb
      have hvn : h.vn ≤ 1024 := by
        have := hpb.symm
        simp only [Bool.and_eq_true, decide_eq_true_eq] at this
        omega
      clear hk hpb
      go_upto_region 8 with fail
      refine wp_region_held_drew (S := (fun W => W.cell? ⟨w.heap.size, 0, none⟩ = some (.slice (some ⟨gk, 0, none⟩) 64 ck) ∧ W.cell? ⟨w.heap.size, 1, none⟩ = some (.int .u32 1779033703) ∧ W.cell? ⟨w.heap.size, 2, none⟩ = some (.int .u32 3144134277) ∧ W.cell? ⟨w.heap.size, 3, none⟩ = some (.int .u32 1013904242) ∧ W.cell? ⟨w.heap.size, 4, none⟩ = some (.int .u32 2773480762) ∧ W.cell? ⟨w.heap.size, 5, none⟩ = some (.int .u32 1359893119) ∧ W.cell? ⟨w.heap.size, 6, none⟩ = some (.int .u32 2600822924) ∧ W.cell? ⟨w.heap.size, 7, none⟩ = some (.int .u32 528734635) ∧ W.cell? ⟨w.heap.size, 8, none⟩ = some (.int .u32 1541459225) ∧ W.cell? ⟨w.heap.size + 1, 2, none⟩ = some (.slice h.va h.vn h.vc))) (by kernel_rfl) ⟨HD.out.drew.nine.1, HD.out.drew.nine.2.1, HD.out.drew.nine.2.2.1, HD.out.drew.nine.2.2.2.1, HD.out.drew.nine.2.2.2.2.1, HD.out.drew.nine.2.2.2.2.2.1, HD.out.drew.nine.2.2.2.2.2.2.1, HD.out.drew.nine.2.2.2.2.2.2.2.1, HD.out.drew.nine.2.2.2.2.2.2.2.2, HD.out.drew.box.cells.2.2.1⟩ (fun hHeld => ?_)
      refine take_w (i := 0) (oi := ?oZ10) (v := ?vZ10) ?hiZ10 (by kernel_rfl) (by kernel_rfl) (by kernel_rfl) ?hQZ10 ?hwZ10 ?hyZ10 (by assumption) ?restZ10
      case hiZ10 => (simp only [List.getElem?_toArray, List.getElem?_cons_zero] <;> rfl)
      case hQZ10 => exact (fun _ _ _ h => h)
      case hwZ10 => rfl
      case hyZ10 => (intro w hSw; (try dsimp only at hSw); go_simp; try with_reducible rfl)
      (try simp only [Act.put, List.setIfInBounds_toArray, List.set_cons_zero, List.set_cons_succ])
      refine take_w (i := 1) (oi := ?oZ11) (v := ?vZ11) ?hiZ11 (by kernel_rfl) (by kernel_rfl) (by kernel_rfl) ?hQZ11 ?hwZ11 ?hyZ11 (by assumption) ?restZ11
      case hiZ11 => (simp only [List.getElem?_toArray, List.getElem?_cons_succ, List.getElem?_cons_zero] <;> rfl)
      case hQZ11 => exact (fun _ _ _ h => h)
      case hwZ11 => rfl
      case hyZ11 => (intro w hSw; (try dsimp only at hSw); go_simp; try with_reducible rfl)
      (try simp only [Act.put, List.setIfInBounds_toArray, List.set_cons_zero, List.set_cons_succ])
      refine take_w (i := 2) (oi := ?oZ12) (v := ?vZ12) ?hiZ12 (by kernel_rfl) (by kernel_rfl) (by kernel_rfl) ?hQZ12 ?hwZ12 ?hyZ12 (by assumption) ?restZ12
      case hiZ12 => (simp only [List.getElem?_toArray, List.getElem?_cons_succ, List.getElem?_cons_zero] <;> rfl)
      case hQZ12 => exact (fun _ _ _ h => h)
      case hwZ12 => rfl
      case hyZ12 => (intro w hSw; (try dsimp only at hSw); go_simp; try with_reducible rfl)
      (try simp only [Act.put, List.setIfInBounds_toArray, List.set_cons_zero, List.set_cons_succ])
      refine take_w (i := 3) (oi := ?oZ13) (v := ?vZ13) ?hiZ13 (by kernel_rfl) (by kernel_rfl) (by kernel_rfl) ?hQZ13 ?hwZ13 ?hyZ13 (by assumption) ?restZ13
      case hiZ13 => (simp only [List.getElem?_toArray, List.getElem?_cons_succ, List.getElem?_cons_zero] <;> rfl)
      case hQZ13 => exact (fun _ _ _ h => h)
      case hwZ13 => rfl
      case hyZ13 => (intro w hSw; (try dsimp only at hSw); go_simp; try with_reducible rfl)
      (try simp only [Act.put, List.setIfInBounds_toArray, List.set_cons_zero, List.set_cons_succ])
      refine wpAnyH_ready (rs := [4]) (by kernel_rfl) (by simp) ?_
      refine AllReadyH.cons (o := ?oZ14) ?hiZ14 (fun K hK => ?stZ14) AllReadyH.nil
      case hiZ14 => (simp only [List.getElem?_toArray, List.getElem?_cons_succ, List.getElem?_cons_zero] <;> rfl)
      go_simp
      go_at_call 71
      (with_reducible refine (refValue_any h.va h.vn h.vc t.val _ ?_ (by omega)).mono ?_)
      · exact HP.out.val.below HD.out.drew.b
      rintro _ w1 ⟨g1, c1', rfl, ho1, hb1⟩
      have HD1 := Lib.hid (HD.out.drew.below hb1)
      have HV1 := Lib.hid (InBytes.of_own ho1 (valL_bytes HP.out.val.bytes))
      clear ho1 hb1
      go_simp
      refine hK.out _ _ ?_ (fun hHeld => ?_)
      · (first | exact ⟨HD2.out.nine.1, HD2.out.nine.2.1, HD2.out.nine.2.2.1, HD2.out.nine.2.2.2.1, HD2.out.nine.2.2.2.2.1, HD2.out.nine.2.2.2.2.2.1, HD2.out.nine.2.2.2.2.2.2.1, HD2.out.nine.2.2.2.2.2.2.2.1, HD2.out.nine.2.2.2.2.2.2.2.2, HD2.out.box.cells.2.2.1⟩ | exact ⟨HD1.out.nine.1, HD1.out.nine.2.1, HD1.out.nine.2.2.1, HD1.out.nine.2.2.2.1, HD1.out.nine.2.2.2.2.1, HD1.out.nine.2.2.2.2.2.1, HD1.out.nine.2.2.2.2.2.2.1, HD1.out.nine.2.2.2.2.2.2.2.1, HD1.out.nine.2.2.2.2.2.2.2.2, HD1.out.box.cells.2.2.1⟩ | exact ⟨HD.out.drew.nine.1, HD.out.drew.nine.2.1, HD.out.drew.nine.2.2.1, HD.out.drew.nine.2.2.2.1, HD.out.drew.nine.2.2.2.2.1, HD.out.drew.nine.2.2.2.2.2.1, HD.out.drew.nine.2.2.2.2.2.2.1, HD.out.drew.nine.2.2.2.2.2.2.2.1, HD.out.drew.nine.2.2.2.2.2.2.2.2, HD.out.drew.box.cells.2.2.1⟩)
      clear hK K
      (try simp only [Act.put, List.setIfInBounds_toArray, List.set_cons_zero, List.set_cons_succ])
      refine wpAnyH_ready (rs := [5]) (by kernel_rfl) (by simp) ?_
      refine AllReadyH.cons (o := ?oZ15) ?hiZ15 (fun K hK => ?stZ15) AllReadyH.nil
      case hiZ15 => (simp only [List.getElem?_toArray, List.getElem?_cons_succ, List.getElem?_cons_zero] <;> rfl)
      go_simp
      go_at_call 70
      (with_reducible refine (HD1.out.of hk1 hk2 HV1.out ?_).mono ?_)
      · rw [valL_len]; omega
      rintro _ w2 ⟨g2, hg2, rfl, hr2, hb2⟩
      have HD2 := Lib.hid (HD1.out.below hb2)
      have HR2 := Lib.hid (of_in32 hr2 hk2)
      clear hg2 hr2 hb2
      go_simp
      refine hK.out _ _ ?_ (fun hHeld => ?_)
      · (first | exact ⟨HD2.out.nine.1, HD2.out.nine.2.1, HD2.out.nine.2.2.1, HD2.out.nine.2.2.2.1, HD2.out.nine.2.2.2.2.1, HD2.out.nine.2.2.2.2.2.1, HD2.out.nine.2.2.2.2.2.2.1, HD2.out.nine.2.2.2.2.2.2.2.1, HD2.out.nine.2.2.2.2.2.2.2.2, HD2.out.box.cells.2.2.1⟩ | exact ⟨HD1.out.nine.1, HD1.out.nine.2.1, HD1.out.nine.2.2.1, HD1.out.nine.2.2.2.1, HD1.out.nine.2.2.2.2.1, HD1.out.nine.2.2.2.2.2.1, HD1.out.nine.2.2.2.2.2.2.1, HD1.out.nine.2.2.2.2.2.2.2.1, HD1.out.nine.2.2.2.2.2.2.2.2, HD1.out.box.cells.2.2.1⟩ | exact ⟨HD.out.drew.nine.1, HD.out.drew.nine.2.1, HD.out.drew.nine.2.2.1, HD.out.drew.nine.2.2.2.1, HD.out.drew.nine.2.2.2.2.1, HD.out.drew.nine.2.2.2.2.2.1, HD.out.drew.nine.2.2.2.2.2.2.1, HD.out.drew.nine.2.2.2.2.2.2.2.1, HD.out.drew.nine.2.2.2.2.2.2.2.2, HD.out.drew.box.cells.2.2.1⟩)
      clear hK K
      (try simp only [Act.put, List.setIfInBounds_toArray, List.set_cons_zero, List.set_cons_succ])
      refine take_w (i := 6) (oi := ?oZ16) (v := ?vZ16) ?hiZ16 (by kernel_rfl) (by kernel_rfl) (by kernel_rfl) ?hQZ16 ?hwZ16 ?hyZ16 (by assumption) ?restZ16
      case hiZ16 => (simp only [List.getElem?_toArray, List.getElem?_cons_succ, List.getElem?_cons_zero] <;> rfl)
      case hQZ16 => exact (fun _ _ _ h => h)
      case hwZ16 => rfl
      case hyZ16 => (intro w hSw; (try dsimp only at hSw); go_simp; try with_reducible rfl)
      (try simp only [Act.put, List.setIfInBounds_toArray, List.set_cons_zero, List.set_cons_succ])
      refine wpAnyH_done (by kernel_rfl) ?_ _
      
      go_wp2_with fail
      go_meet
      exact ⟨_, _, _, rfl, by unfold valT; rw [if_pos HE.out]; exact HR2.out, HD2.out⟩
  case rest =>
  obtain ⟨av, nv, cv, rfl, hinv, hdw⟩ := hcut
  have HV := Lib.hid hinv
  have hnv := hinv.len
  clear x0 x1 x2 x3 x4 t0 t1 t2 t3 t4 t5 t6 t7 t8 HD hinv
  generalize wc = w3 at *
  have HD := Lib.hid hdw
  clear hdw
  by_cases hnk : nv = k
  rotate_left
  · have hne : ((nv : Int) != (k : Int)) = true := by simp; omega
    clear hnk
    go_wp2_with fail
    go_ret2
    refine ⟨_, _, _, false, rfl, .inr ⟨rfl, digT_bad HH.out.1 HH.out.2.1 ?_⟩, HD.out.b⟩
    intro hc
    rw [hnv] at hc
    simp [hc] at hne
  obtain rfl : nv = k := hnk
  have HNV := Lib.hid hnv
  clear hnv
  have hkn : h.kn ≤ 80 := by
    have hpb := HPB.out
    rw [HF.out.1, if_neg (by simpa using e0)] at hpb
    have hh := hpb.symm
    split at hh
    · simp only [Bool.and_eq_true, decide_eq_true_eq] at hh
      omega
    · split at hh
      · simp only [Bool.and_eq_true, decide_eq_true_eq] at hh
        omega
      · rw [if_neg (by simpa using e3)] at hh
        cases hh
  have hc0 : ((nv : Int) != (nv : Int)) = false := by simp
  have l0 : 0 < t.kids.length := by omega
  have l1 : 1 < t.kids.length := by omega
  have htn := HTN.out
  have ht0 : 0 < h.tn := by omega
  have ht1 : (1 : Int) < (h.tn : Int) := by omega
  clear htn
  obtain ⟨g, off, hta, _, _⟩ := (HP.out.below HD.out.b).place ht0
  have HTA := Lib.hid hta
  clear hta
  go_upto_region 11 with fail
  refine wp_region_held_drew (S := (fun W => W.cell? ⟨w.heap.size, 0, none⟩ = some (.slice (some ⟨gk, 0, none⟩) 64 ck) ∧ W.cell? ⟨w.heap.size, 1, none⟩ = some (.int .u32 1779033703) ∧ W.cell? ⟨w.heap.size, 2, none⟩ = some (.int .u32 3144134277) ∧ W.cell? ⟨w.heap.size, 3, none⟩ = some (.int .u32 1013904242) ∧ W.cell? ⟨w.heap.size, 4, none⟩ = some (.int .u32 2773480762) ∧ W.cell? ⟨w.heap.size, 5, none⟩ = some (.int .u32 1359893119) ∧ W.cell? ⟨w.heap.size, 6, none⟩ = some (.int .u32 2600822924) ∧ W.cell? ⟨w.heap.size, 7, none⟩ = some (.int .u32 528734635) ∧ W.cell? ⟨w.heap.size, 8, none⟩ = some (.int .u32 1541459225) ∧ W.cell? ⟨w.heap.size + 1, 4, none⟩ = some (.slice (some ⟨g, off, none⟩) h.tn h.tc) ∧ W.cell? ⟨g, off, none⟩ = some (.int .i64 (H 0).k) ∧ W.cell? ⟨g, off + 1, none⟩ = some (.slice (H 0).ka (H 0).kn (H 0).kc) ∧ W.cell? ⟨g, off + 2, none⟩ = some (.slice (H 0).va (H 0).vn (H 0).vc) ∧ W.cell? ⟨g, off + 3, none⟩ = some (.slice (H 0).da (H 0).dn (H 0).dc) ∧ W.cell? ⟨g, off + 4, none⟩ = some (.slice (H 0).ta (H 0).tn (H 0).tc))) (by kernel_rfl) ⟨HD.out.drew.nine.1, HD.out.drew.nine.2.1, HD.out.drew.nine.2.2.1, HD.out.drew.nine.2.2.2.1, HD.out.drew.nine.2.2.2.2.1, HD.out.drew.nine.2.2.2.2.2.1, HD.out.drew.nine.2.2.2.2.2.2.1, HD.out.drew.nine.2.2.2.2.2.2.2.1, HD.out.drew.nine.2.2.2.2.2.2.2.2, (HD.out.drew.box.cells.2.2.2.2).trans (by rw [HTA.out]), (HP.out.below HD.out.drew.b).kid0 HTA.out (by omega)⟩ (fun hHeld => ?_)
  refine take_w (i := 0) (oi := ?oZ17) (v := ?vZ17) ?hiZ17 (by kernel_rfl) (by kernel_rfl) (by kernel_rfl) ?hQZ17 ?hwZ17 ?hyZ17 (by assumption) ?restZ17
  case hiZ17 => (simp only [List.getElem?_toArray, List.getElem?_cons_zero] <;> rfl)
  case hQZ17 => exact (fun _ _ _ h => h)
  case hwZ17 => rfl
  case hyZ17 => (intro w hSw; (try dsimp only at hSw); go_simp; try with_reducible rfl)
  (try simp only [Act.put, List.setIfInBounds_toArray, List.set_cons_zero, List.set_cons_succ])
  refine take_w (i := 1) (oi := ?oZ18) (v := ?vZ18) ?hiZ18 (by kernel_rfl) (by kernel_rfl) (by kernel_rfl) ?hQZ18 ?hwZ18 ?hyZ18 (by assumption) ?restZ18
  case hiZ18 => (simp only [List.getElem?_toArray, List.getElem?_cons_succ, List.getElem?_cons_zero] <;> rfl)
  case hQZ18 => exact (fun _ _ _ h => h)
  case hwZ18 => rfl
  case hyZ18 => (intro w hSw; (try dsimp only at hSw); go_simp; try with_reducible rfl)
  (try simp only [Act.put, List.setIfInBounds_toArray, List.set_cons_zero, List.set_cons_succ])
  refine take_w (i := 2) (oi := ?oZ19) (v := ?vZ19) ?hiZ19 (by kernel_rfl) (by kernel_rfl) (by kernel_rfl) ?hQZ19 ?hwZ19 ?hyZ19 (by assumption) ?restZ19
  case hiZ19 => (simp only [List.getElem?_toArray, List.getElem?_cons_succ, List.getElem?_cons_zero] <;> rfl)
  case hQZ19 => exact (fun _ _ _ h => h)
  case hwZ19 => rfl
  case hyZ19 => (intro w hSw; (try dsimp only at hSw); go_simp; try with_reducible rfl)
  (try simp only [Act.put, List.setIfInBounds_toArray, List.set_cons_zero, List.set_cons_succ])
  refine take_w (i := 3) (oi := ?oZ20) (v := ?vZ20) ?hiZ20 (by kernel_rfl) (by kernel_rfl) (by kernel_rfl) ?hQZ20 ?hwZ20 ?hyZ20 (by assumption) ?restZ20
  case hiZ20 => (simp only [List.getElem?_toArray, List.getElem?_cons_succ, List.getElem?_cons_zero] <;> rfl)
  case hQZ20 => exact (fun _ _ _ h => h)
  case hwZ20 => rfl
  case hyZ20 => (intro w hSw; (try dsimp only at hSw); go_simp; try with_reducible rfl)
  (try simp only [Act.put, List.setIfInBounds_toArray, List.set_cons_zero, List.set_cons_succ])
  refine take_w (i := 4) (oi := ?oZ21) (v := ?vZ21) ?hiZ21 (by kernel_rfl) (by kernel_rfl) (by kernel_rfl) ?hQZ21 ?hwZ21 ?hyZ21 (by assumption) ?restZ21
  case hiZ21 => (simp only [List.getElem?_toArray, List.getElem?_cons_succ, List.getElem?_cons_zero] <;> rfl)
  case hQZ21 => exact (fun _ _ _ h => h)
  case hwZ21 => rfl
  case hyZ21 => (intro w hSw; (try dsimp only at hSw); go_simp; try with_reducible rfl)
  (try simp only [Act.put, List.setIfInBounds_toArray, List.set_cons_zero, List.set_cons_succ])
  refine take_w (i := 5) (oi := ?oZ22) (v := ?vZ22) ?hiZ22 (by kernel_rfl) (by kernel_rfl) (by kernel_rfl) ?hQZ22 ?hwZ22 ?hyZ22 (by assumption) ?restZ22
  case hiZ22 => (simp only [List.getElem?_toArray, List.getElem?_cons_succ, List.getElem?_cons_zero] <;> rfl)
  case hQZ22 => exact (fun _ _ _ h => h)
  case hwZ22 => rfl
  case hyZ22 => (intro w hSw; (try dsimp only at hSw); go_simp; try with_reducible rfl)
  (try simp only [Act.put, List.setIfInBounds_toArray, List.set_cons_zero, List.set_cons_succ])
  refine wpAnyH_ready (rs := [6]) (by kernel_rfl) (by simp) ?_
  refine AllReadyH.cons (o := ?oZ23) ?hiZ23 (fun K hK => ?stZ23) AllReadyH.nil
  case hiZ23 => (simp only [List.getElem?_toArray, List.getElem?_cons_succ, List.getElem?_cons_zero] <;> rfl)
  go_simp
  go_at_call 49
  refine (IH.out _ (List.getElem_mem l0) (H 0) _ ((HP.out.below HD.out.drew.b).kids 0 l0) (HF.out.2 0 l0) HD.out.drew.ks (Nat.lt_of_lt_of_le HD.out.drew.gk HD.out.drew.b.size)).mono ?_
  rintro _ w4 ⟨a4, n4, cc4, is4, rfl, hres4, hb4⟩
  have HD4 := Lib.hid (HD.out.drew.below hb4)
  have HRES4 := Lib.hid hres4
  have HV4 := Lib.hid ((HV.out.below (Below.refl _ _).drew).below hb4)
  clear hres4 hb4
  go_simp
  refine hK.out _ _ ?_ (fun hHeld => ?_)
  · (first | exact ⟨HD4.out.nine.1, HD4.out.nine.2.1, HD4.out.nine.2.2.1, HD4.out.nine.2.2.2.1, HD4.out.nine.2.2.2.2.1, HD4.out.nine.2.2.2.2.2.1, HD4.out.nine.2.2.2.2.2.2.1, HD4.out.nine.2.2.2.2.2.2.2.1, HD4.out.nine.2.2.2.2.2.2.2.2, (HD4.out.box.cells.2.2.2.2).trans (by rw [HTA.out]), (HP.out.below HD4.out.b).kid0 HTA.out (by omega)⟩ | exact ⟨HD.out.drew.nine.1, HD.out.drew.nine.2.1, HD.out.drew.nine.2.2.1, HD.out.drew.nine.2.2.2.1, HD.out.drew.nine.2.2.2.2.1, HD.out.drew.nine.2.2.2.2.2.1, HD.out.drew.nine.2.2.2.2.2.2.1, HD.out.drew.nine.2.2.2.2.2.2.2.1, HD.out.drew.nine.2.2.2.2.2.2.2.2, (HD.out.drew.box.cells.2.2.2.2).trans (by rw [HTA.out]), (HP.out.below HD.out.drew.b).kid0 HTA.out (by omega)⟩)
  clear hK K
  (try simp only [Act.put, List.setIfInBounds_toArray, List.set_cons_zero, List.set_cons_succ])
  refine take_w (i := 7) (oi := ?oZ24) (v := ?vZ24) ?hiZ24 (by kernel_rfl) (by kernel_rfl) (by kernel_rfl) ?hQZ24 ?hwZ24 ?hyZ24 (by assumption) ?restZ24
  case hiZ24 => (simp only [List.getElem?_toArray, List.getElem?_cons_succ, List.getElem?_cons_zero] <;> rfl)
  case hQZ24 => exact (fun _ _ _ h => h)
  case hwZ24 => rfl
  case hyZ24 => (intro w hSw; (try dsimp only at hSw); go_simp; try with_reducible rfl)
  (try simp only [Act.put, List.setIfInBounds_toArray, List.set_cons_zero, List.set_cons_succ])
  refine take_w (i := 8) (oi := ?oZ25) (v := ?vZ25) ?hiZ25 (by kernel_rfl) (by kernel_rfl) (by kernel_rfl) ?hQZ25 ?hwZ25 ?hyZ25 (by assumption) ?restZ25
  case hiZ25 => (simp only [List.getElem?_toArray, List.getElem?_cons_succ, List.getElem?_cons_zero] <;> rfl)
  case hQZ25 => exact (fun _ _ _ h => h)
  case hwZ25 => rfl
  case hyZ25 => (intro w hSw; (try dsimp only at hSw); go_simp; try with_reducible rfl)
  (try simp only [Act.put, List.setIfInBounds_toArray, List.set_cons_zero, List.set_cons_succ])
  refine take_w (i := 9) (oi := ?oZ26) (v := ?vZ26) ?hiZ26 (by kernel_rfl) (by kernel_rfl) (by kernel_rfl) ?hQZ26 ?hwZ26 ?hyZ26 (by assumption) ?restZ26
  case hiZ26 => (simp only [List.getElem?_toArray, List.getElem?_cons_succ, List.getElem?_cons_zero] <;> rfl)
  case hQZ26 => exact (fun _ _ _ h => h)
  case hwZ26 => rfl
  case hyZ26 => (intro w hSw; (try dsimp only at hSw); go_simp; try with_reducible rfl)
  (try simp only [Act.put, List.setIfInBounds_toArray, List.set_cons_zero, List.set_cons_succ])
  refine take_w (i := 10) (oi := ?oZ27) (v := ?vZ27) ?hiZ27 (by kernel_rfl) (by kernel_rfl) (by kernel_rfl) ?hQZ27 ?hwZ27 ?hyZ27 (by assumption) ?restZ27
  case hiZ27 => (simp only [List.getElem?_toArray, List.getElem?_cons_succ, List.getElem?_cons_zero] <;> rfl)
  case hQZ27 => exact (fun _ _ _ h => h)
  case hwZ27 => rfl
  case hyZ27 => (intro w hSw; (try dsimp only at hSw); go_simp; try with_reducible rfl)
  (try simp only [Act.put, List.setIfInBounds_toArray, List.set_cons_zero, List.set_cons_succ])
  refine take_w (i := 11) (oi := ?oZ28) (v := ?vZ28) ?hiZ28 (by kernel_rfl) (by kernel_rfl) (by kernel_rfl) ?hQZ28 ?hwZ28 ?hyZ28 (by assumption) ?restZ28
  case hiZ28 => (simp only [List.getElem?_toArray, List.getElem?_cons_succ, List.getElem?_cons_zero] <;> rfl)
  case hQZ28 => exact (fun _ _ _ h => h)
  case hwZ28 => rfl
  case hyZ28 => (intro w hSw; (try dsimp only at hSw); go_simp; try with_reducible rfl)
  (try simp only [Act.put, List.setIfInBounds_toArray, List.set_cons_zero, List.set_cons_succ])
  refine wpAnyH_done (by kernel_rfl) ?_ _
  
  clear hHeld
  go_upto_region 12 with fail
  refine wp_region_held_drew (S := (fun W => W.cell? ⟨w.heap.size, 0, none⟩ = some (.slice (some ⟨gk, 0, none⟩) 64 ck) ∧ W.cell? ⟨w.heap.size, 1, none⟩ = some (.int .u32 1779033703) ∧ W.cell? ⟨w.heap.size, 2, none⟩ = some (.int .u32 3144134277) ∧ W.cell? ⟨w.heap.size, 3, none⟩ = some (.int .u32 1013904242) ∧ W.cell? ⟨w.heap.size, 4, none⟩ = some (.int .u32 2773480762) ∧ W.cell? ⟨w.heap.size, 5, none⟩ = some (.int .u32 1359893119) ∧ W.cell? ⟨w.heap.size, 6, none⟩ = some (.int .u32 2600822924) ∧ W.cell? ⟨w.heap.size, 7, none⟩ = some (.int .u32 528734635) ∧ W.cell? ⟨w.heap.size, 8, none⟩ = some (.int .u32 1541459225) ∧ W.cell? ⟨w.heap.size + 1, 4, none⟩ = some (.slice (some ⟨g, off, none⟩) h.tn h.tc) ∧ W.cell? ⟨g, off + 5, none⟩ = some (.int .i64 (H 1).k) ∧ W.cell? ⟨g, off + 5 + 1, none⟩ = some (.slice (H 1).ka (H 1).kn (H 1).kc) ∧ W.cell? ⟨g, off + 5 + 2, none⟩ = some (.slice (H 1).va (H 1).vn (H 1).vc) ∧ W.cell? ⟨g, off + 5 + 3, none⟩ = some (.slice (H 1).da (H 1).dn (H 1).dc) ∧ W.cell? ⟨g, off + 5 + 4, none⟩ = some (.slice (H 1).ta (H 1).tn (H 1).tc))) (by kernel_rfl) ⟨HD4.out.drew.nine.1, HD4.out.drew.nine.2.1, HD4.out.drew.nine.2.2.1, HD4.out.drew.nine.2.2.2.1, HD4.out.drew.nine.2.2.2.2.1, HD4.out.drew.nine.2.2.2.2.2.1, HD4.out.drew.nine.2.2.2.2.2.2.1, HD4.out.drew.nine.2.2.2.2.2.2.2.1, HD4.out.drew.nine.2.2.2.2.2.2.2.2, (HD4.out.drew.box.cells.2.2.2.2).trans (by rw [HTA.out]), (HP.out.below HD4.out.drew.b).kid1 HTA.out (by omega)⟩ (fun hHeld => ?_)
  refine take_w (i := 0) (oi := ?oZ29) (v := ?vZ29) ?hiZ29 (by kernel_rfl) (by kernel_rfl) (by kernel_rfl) ?hQZ29 ?hwZ29 ?hyZ29 (by assumption) ?restZ29
  case hiZ29 => (simp only [List.getElem?_toArray, List.getElem?_cons_zero] <;> rfl)
  case hQZ29 => exact (fun _ _ _ h => h)
  case hwZ29 => rfl
  case hyZ29 => (intro w hSw; (try dsimp only at hSw); go_simp; try with_reducible rfl)
  (try simp only [Act.put, List.setIfInBounds_toArray, List.set_cons_zero, List.set_cons_succ])
  refine take_w (i := 1) (oi := ?oZ30) (v := ?vZ30) ?hiZ30 (by kernel_rfl) (by kernel_rfl) (by kernel_rfl) ?hQZ30 ?hwZ30 ?hyZ30 (by assumption) ?restZ30
  case hiZ30 => (simp only [List.getElem?_toArray, List.getElem?_cons_succ, List.getElem?_cons_zero] <;> rfl)
  case hQZ30 => exact (fun _ _ _ h => h)
  case hwZ30 => rfl
  case hyZ30 => (intro w hSw; (try dsimp only at hSw); go_simp; try with_reducible rfl)
  (try simp only [Act.put, List.setIfInBounds_toArray, List.set_cons_zero, List.set_cons_succ])
  refine take_w (i := 2) (oi := ?oZ31) (v := ?vZ31) ?hiZ31 (by kernel_rfl) (by kernel_rfl) (by kernel_rfl) ?hQZ31 ?hwZ31 ?hyZ31 (by assumption) ?restZ31
  case hiZ31 => (simp only [List.getElem?_toArray, List.getElem?_cons_succ, List.getElem?_cons_zero] <;> rfl)
  case hQZ31 => exact (fun _ _ _ h => h)
  case hwZ31 => rfl
  case hyZ31 => (intro w hSw; (try dsimp only at hSw); go_simp; try with_reducible rfl)
  (try simp only [Act.put, List.setIfInBounds_toArray, List.set_cons_zero, List.set_cons_succ])
  refine take_w (i := 3) (oi := ?oZ32) (v := ?vZ32) ?hiZ32 (by kernel_rfl) (by kernel_rfl) (by kernel_rfl) ?hQZ32 ?hwZ32 ?hyZ32 (by assumption) ?restZ32
  case hiZ32 => (simp only [List.getElem?_toArray, List.getElem?_cons_succ, List.getElem?_cons_zero] <;> rfl)
  case hQZ32 => exact (fun _ _ _ h => h)
  case hwZ32 => rfl
  case hyZ32 => (intro w hSw; (try dsimp only at hSw); go_simp; try with_reducible rfl)
  (try simp only [Act.put, List.setIfInBounds_toArray, List.set_cons_zero, List.set_cons_succ])
  refine take_w (i := 4) (oi := ?oZ33) (v := ?vZ33) ?hiZ33 (by kernel_rfl) (by kernel_rfl) (by kernel_rfl) ?hQZ33 ?hwZ33 ?hyZ33 (by assumption) ?restZ33
  case hiZ33 => (simp only [List.getElem?_toArray, List.getElem?_cons_succ, List.getElem?_cons_zero] <;> rfl)
  case hQZ33 => exact (fun _ _ _ h => h)
  case hwZ33 => rfl
  case hyZ33 => (intro w hSw; (try dsimp only at hSw); go_simp; try with_reducible rfl)
  (try simp only [Act.put, List.setIfInBounds_toArray, List.set_cons_zero, List.set_cons_succ])
  refine take_w (i := 5) (oi := ?oZ34) (v := ?vZ34) ?hiZ34 (by kernel_rfl) (by kernel_rfl) (by kernel_rfl) ?hQZ34 ?hwZ34 ?hyZ34 (by assumption) ?restZ34
  case hiZ34 => (simp only [List.getElem?_toArray, List.getElem?_cons_succ, List.getElem?_cons_zero] <;> rfl)
  case hQZ34 => exact (fun _ _ _ h => h)
  case hwZ34 => rfl
  case hyZ34 => (intro w hSw; (try dsimp only at hSw); go_simp; try with_reducible rfl)
  (try simp only [Act.put, List.setIfInBounds_toArray, List.set_cons_zero, List.set_cons_succ])
  refine wpAnyH_ready (rs := [6]) (by kernel_rfl) (by simp) ?_
  refine AllReadyH.cons (o := ?oZ35) ?hiZ35 (fun K hK => ?stZ35) AllReadyH.nil
  case hiZ35 => (simp only [List.getElem?_toArray, List.getElem?_cons_succ, List.getElem?_cons_zero] <;> rfl)
  go_simp
  go_at_call 49
  refine (IH.out _ (List.getElem_mem l1) (H 1) _ ((HP.out.below HD4.out.drew.b).kids 1 l1) (HF.out.2 1 l1) HD4.out.drew.ks (Nat.lt_of_lt_of_le HD4.out.drew.gk HD4.out.drew.b.size)).mono ?_
  rintro _ w5 ⟨a5, n5, cc5, is5, rfl, hres5, hb5⟩
  have HD5 := Lib.hid (HD4.out.drew.below hb5)
  have HRES5 := Lib.hid hres5
  have HV5 := Lib.hid ((HV4.out.below (Below.refl _ _).drew).below hb5)
  have HBB5 : Hid (Below w4.heap.size w4 w5) := Lib.hid ((Below.refl w4.heap.size w4).drew.trans hb5)
  clear hres5 hb5
  go_simp
  refine hK.out _ _ ?_ (fun hHeld => ?_)
  · (first | exact ⟨HD5.out.nine.1, HD5.out.nine.2.1, HD5.out.nine.2.2.1, HD5.out.nine.2.2.2.1, HD5.out.nine.2.2.2.2.1, HD5.out.nine.2.2.2.2.2.1, HD5.out.nine.2.2.2.2.2.2.1, HD5.out.nine.2.2.2.2.2.2.2.1, HD5.out.nine.2.2.2.2.2.2.2.2, (HD5.out.box.cells.2.2.2.2).trans (by rw [HTA.out]), (HP.out.below HD5.out.b).kid1 HTA.out (by omega)⟩ | exact ⟨HD4.out.drew.nine.1, HD4.out.drew.nine.2.1, HD4.out.drew.nine.2.2.1, HD4.out.drew.nine.2.2.2.1, HD4.out.drew.nine.2.2.2.2.1, HD4.out.drew.nine.2.2.2.2.2.1, HD4.out.drew.nine.2.2.2.2.2.2.1, HD4.out.drew.nine.2.2.2.2.2.2.2.1, HD4.out.drew.nine.2.2.2.2.2.2.2.2, (HD4.out.drew.box.cells.2.2.2.2).trans (by rw [HTA.out]), (HP.out.below HD4.out.drew.b).kid1 HTA.out (by omega)⟩)
  clear hK K
  (try simp only [Act.put, List.setIfInBounds_toArray, List.set_cons_zero, List.set_cons_succ])
  refine take_w (i := 7) (oi := ?oZ36) (v := ?vZ36) ?hiZ36 (by kernel_rfl) (by kernel_rfl) (by kernel_rfl) ?hQZ36 ?hwZ36 ?hyZ36 (by assumption) ?restZ36
  case hiZ36 => (simp only [List.getElem?_toArray, List.getElem?_cons_succ, List.getElem?_cons_zero] <;> rfl)
  case hQZ36 => exact (fun _ _ _ h => h)
  case hwZ36 => rfl
  case hyZ36 => (intro w hSw; (try dsimp only at hSw); go_simp; try with_reducible rfl)
  (try simp only [Act.put, List.setIfInBounds_toArray, List.set_cons_zero, List.set_cons_succ])
  refine take_w (i := 8) (oi := ?oZ37) (v := ?vZ37) ?hiZ37 (by kernel_rfl) (by kernel_rfl) (by kernel_rfl) ?hQZ37 ?hwZ37 ?hyZ37 (by assumption) ?restZ37
  case hiZ37 => (simp only [List.getElem?_toArray, List.getElem?_cons_succ, List.getElem?_cons_zero] <;> rfl)
  case hQZ37 => exact (fun _ _ _ h => h)
  case hwZ37 => rfl
  case hyZ37 => (intro w hSw; (try dsimp only at hSw); go_simp; try with_reducible rfl)
  (try simp only [Act.put, List.setIfInBounds_toArray, List.set_cons_zero, List.set_cons_succ])
  refine take_w (i := 9) (oi := ?oZ38) (v := ?vZ38) ?hiZ38 (by kernel_rfl) (by kernel_rfl) (by kernel_rfl) ?hQZ38 ?hwZ38 ?hyZ38 (by assumption) ?restZ38
  case hiZ38 => (simp only [List.getElem?_toArray, List.getElem?_cons_succ, List.getElem?_cons_zero] <;> rfl)
  case hQZ38 => exact (fun _ _ _ h => h)
  case hwZ38 => rfl
  case hyZ38 => (intro w hSw; (try dsimp only at hSw); go_simp; try with_reducible rfl)
  (try simp only [Act.put, List.setIfInBounds_toArray, List.set_cons_zero, List.set_cons_succ])
  refine take_w (i := 10) (oi := ?oZ39) (v := ?vZ39) ?hiZ39 (by kernel_rfl) (by kernel_rfl) (by kernel_rfl) ?hQZ39 ?hwZ39 ?hyZ39 (by assumption) ?restZ39
  case hiZ39 => (simp only [List.getElem?_toArray, List.getElem?_cons_succ, List.getElem?_cons_zero] <;> rfl)
  case hQZ39 => exact (fun _ _ _ h => h)
  case hwZ39 => rfl
  case hyZ39 => (intro w hSw; (try dsimp only at hSw); go_simp; try with_reducible rfl)
  (try simp only [Act.put, List.setIfInBounds_toArray, List.set_cons_zero, List.set_cons_succ])
  refine take_w (i := 11) (oi := ?oZ40) (v := ?vZ40) ?hiZ40 (by kernel_rfl) (by kernel_rfl) (by kernel_rfl) ?hQZ40 ?hwZ40 ?hyZ40 (by assumption) ?restZ40
  case hiZ40 => (simp only [List.getElem?_toArray, List.getElem?_cons_succ, List.getElem?_cons_zero] <;> rfl)
  case hQZ40 => exact (fun _ _ _ h => h)
  case hwZ40 => rfl
  case hyZ40 => (intro w hSw; (try dsimp only at hSw); go_simp; try with_reducible rfl)
  (try simp only [Act.put, List.setIfInBounds_toArray, List.set_cons_zero, List.set_cons_succ])
  refine wpAnyH_done (by kernel_rfl) ?_ _
  
  clear hHeld
  rcases HRES4.out with ⟨rfl, zs4, hz4, hin4⟩ | ⟨rfl, hz4⟩
  rotate_left
  · have HZ := Lib.hid hz4
    clear hz4
    go_wp2_with fail
    go_ret2
    exact ⟨_, _, _, false, rfl, .inr ⟨rfl, by rw [digT_node HH.out.1 HH.out.2.1 HNV.out HH.out.2.2, HZ.out]⟩, HD5.out.b⟩
  rcases HRES5.out with ⟨rfl, zs5, hz5, hin5⟩ | ⟨rfl, hz5⟩
  rotate_left
  · have HZ := Lib.hid (And.intro hz4 hz5)
    clear hz4 hz5 hin4
    go_wp2_with fail
    go_ret2
    exact ⟨_, _, _, false, rfl, .inr ⟨rfl, by rw [digT_node HH.out.1 HH.out.2.1 HNV.out HH.out.2.2, HZ.out.1, HZ.out.2]⟩, HD5.out.b⟩
  have hn4 : n4 = nv := by rw [← hin4.len]; exact digT_len hk2 hz4
  have hn5 : n5 = nv := by rw [← hin5.len]; exact digT_len hk2 hz5
  have HI5 : Hid (InBytes w5 a4 n4 cc4 zs4 ∧ InBytes w5 a5 n5 cc5 zs5) := Lib.hid ⟨hin4.below HBB5.out, hin5⟩
  have hn4' : n4 ≤ 32 := by omega
  have hn5' : n5 ≤ 32 := by omega
  have HZ := Lib.hid (And.intro hz4 hz5)
  clear hz4 hz5 hin4 hin5 hn4 hn5 HRES4 HRES5
  go_upto_region 15 with fail
  refine wp_region_held_drew (S := (fun W => W.cell? ⟨w.heap.size, 0, none⟩ = some (.slice (some ⟨gk, 0, none⟩) 64 ck) ∧ W.cell? ⟨w.heap.size, 1, none⟩ = some (.int .u32 1779033703) ∧ W.cell? ⟨w.heap.size, 2, none⟩ = some (.int .u32 3144134277) ∧ W.cell? ⟨w.heap.size, 3, none⟩ = some (.int .u32 1013904242) ∧ W.cell? ⟨w.heap.size, 4, none⟩ = some (.int .u32 2773480762) ∧ W.cell? ⟨w.heap.size, 5, none⟩ = some (.int .u32 1359893119) ∧ W.cell? ⟨w.heap.size, 6, none⟩ = some (.int .u32 2600822924) ∧ W.cell? ⟨w.heap.size, 7, none⟩ = some (.int .u32 528734635) ∧ W.cell? ⟨w.heap.size, 8, none⟩ = some (.int .u32 1541459225) ∧ W.cell? ⟨w.heap.size + 1, 1, none⟩ = some (.slice h.ka h.kn h.kc))) (by kernel_rfl) ⟨HD5.out.drew.nine.1, HD5.out.drew.nine.2.1, HD5.out.drew.nine.2.2.1, HD5.out.drew.nine.2.2.2.1, HD5.out.drew.nine.2.2.2.2.1, HD5.out.drew.nine.2.2.2.2.2.1, HD5.out.drew.nine.2.2.2.2.2.2.1, HD5.out.drew.nine.2.2.2.2.2.2.2.1, HD5.out.drew.nine.2.2.2.2.2.2.2.2, HD5.out.drew.box.cells.2.1⟩ (fun hHeld => ?_)
  refine take_w (i := 0) (oi := ?oZ41) (v := ?vZ41) ?hiZ41 (by kernel_rfl) (by kernel_rfl) (by kernel_rfl) ?hQZ41 ?hwZ41 ?hyZ41 (by assumption) ?restZ41
  case hiZ41 => (simp only [List.getElem?_toArray, List.getElem?_cons_zero] <;> rfl)
  case hQZ41 => exact (fun _ _ _ h => h)
  case hwZ41 => rfl
  case hyZ41 => (intro w hSw; (try dsimp only at hSw); go_simp; try with_reducible rfl)
  (try simp only [Act.put, List.setIfInBounds_toArray, List.set_cons_zero, List.set_cons_succ])
  refine take_w (i := 1) (oi := ?oZ42) (v := ?vZ42) ?hiZ42 (by kernel_rfl) (by kernel_rfl) (by kernel_rfl) ?hQZ42 ?hwZ42 ?hyZ42 (by assumption) ?restZ42
  case hiZ42 => (simp only [List.getElem?_toArray, List.getElem?_cons_succ, List.getElem?_cons_zero] <;> rfl)
  case hQZ42 => exact (fun _ _ _ h => h)
  case hwZ42 => rfl
  case hyZ42 => (intro w hSw; (try dsimp only at hSw); go_simp; try with_reducible rfl)
  (try simp only [Act.put, List.setIfInBounds_toArray, List.set_cons_zero, List.set_cons_succ])
  refine take_w (i := 2) (oi := ?oZ43) (v := ?vZ43) ?hiZ43 (by kernel_rfl) (by kernel_rfl) (by kernel_rfl) ?hQZ43 ?hwZ43 ?hyZ43 (by assumption) ?restZ43
  case hiZ43 => (simp only [List.getElem?_toArray, List.getElem?_cons_succ, List.getElem?_cons_zero] <;> rfl)
  case hQZ43 => exact (fun _ _ _ h => h)
  case hwZ43 => rfl
  case hyZ43 => (intro w hSw; (try dsimp only at hSw); go_simp; try with_reducible rfl)
  (try simp only [Act.put, List.setIfInBounds_toArray, List.set_cons_zero, List.set_cons_succ])
  refine take_w (i := 3) (oi := ?oZ44) (v := ?vZ44) ?hiZ44 (by kernel_rfl) (by kernel_rfl) (by kernel_rfl) ?hQZ44 ?hwZ44 ?hyZ44 (by assumption) ?restZ44
  case hiZ44 => (simp only [List.getElem?_toArray, List.getElem?_cons_succ, List.getElem?_cons_zero] <;> rfl)
  case hQZ44 => exact (fun _ _ _ h => h)
  case hwZ44 => rfl
  case hyZ44 => (intro w hSw; (try dsimp only at hSw); go_simp; try with_reducible rfl)
  (try simp only [Act.put, List.setIfInBounds_toArray, List.set_cons_zero, List.set_cons_succ])
  refine take_w (i := 4) (oi := ?oZ45) (v := ?vZ45) ?hiZ45 (by kernel_rfl) (by kernel_rfl) (by kernel_rfl) ?hQZ45 ?hwZ45 ?hyZ45 (by assumption) ?restZ45
  case hiZ45 => (simp only [List.getElem?_toArray, List.getElem?_cons_succ, List.getElem?_cons_zero] <;> rfl)
  case hQZ45 => exact (fun _ _ _ h => h)
  case hwZ45 => rfl
  case hyZ45 => (intro w hSw; (try dsimp only at hSw); go_simp; try with_reducible rfl)
  (try simp only [Act.put, List.setIfInBounds_toArray, List.set_cons_zero, List.set_cons_succ])
  refine wpAnyH_ready (rs := [5]) (by kernel_rfl) (by simp) ?_
  refine AllReadyH.cons (o := ?oZ46) ?hiZ46 (fun K hK => ?stZ46) AllReadyH.nil
  case hiZ46 => (simp only [List.getElem?_toArray, List.getElem?_cons_succ, List.getElem?_cons_zero] <;> rfl)
  go_simp
  go_at_call 72
  (with_reducible refine (refPair_any h.ka h.kn h.kc t.key av nv cv (valT nv t) _ ?_ ?_ ?_ hk2).mono ?_)
  · exact HP.out.key.below HD5.out.drew.b
  · omega
  · exact HV5.out.below (Below.refl _ _).drew
  rintro _ w6 ⟨g6, c6, rfl, ho6, hb6⟩
  have HD6 := Lib.hid (HD5.out.drew.below hb6)
  have HP6 := Lib.hid (InBytes.of_own ho6 (pairL_bytes HP.out.key.bytes (by omega) HV5.out.bytes))
  have HI6 : Hid (InBytes w6 a4 n4 cc4 zs4 ∧ InBytes w6 a5 n5 cc5 zs5) := Lib.hid ⟨(HI5.out.1.below (Below.refl _ _).drew).below hb6, (HI5.out.2.below (Below.refl _ _).drew).below hb6⟩
  clear ho6 hb6
  go_simp
  refine hK.out _ _ ?_ (fun hHeld => ?_)
  · (first | exact ⟨HD7.out.nine.1, HD7.out.nine.2.1, HD7.out.nine.2.2.1, HD7.out.nine.2.2.2.1, HD7.out.nine.2.2.2.2.1, HD7.out.nine.2.2.2.2.2.1, HD7.out.nine.2.2.2.2.2.2.1, HD7.out.nine.2.2.2.2.2.2.2.1, HD7.out.nine.2.2.2.2.2.2.2.2, HD7.out.box.cells.2.1⟩ | exact ⟨HD6.out.nine.1, HD6.out.nine.2.1, HD6.out.nine.2.2.1, HD6.out.nine.2.2.2.1, HD6.out.nine.2.2.2.2.1, HD6.out.nine.2.2.2.2.2.1, HD6.out.nine.2.2.2.2.2.2.1, HD6.out.nine.2.2.2.2.2.2.2.1, HD6.out.nine.2.2.2.2.2.2.2.2, HD6.out.box.cells.2.1⟩ | exact ⟨HD5.out.drew.nine.1, HD5.out.drew.nine.2.1, HD5.out.drew.nine.2.2.1, HD5.out.drew.nine.2.2.2.1, HD5.out.drew.nine.2.2.2.2.1, HD5.out.drew.nine.2.2.2.2.2.1, HD5.out.drew.nine.2.2.2.2.2.2.1, HD5.out.drew.nine.2.2.2.2.2.2.2.1, HD5.out.drew.nine.2.2.2.2.2.2.2.2, HD5.out.drew.box.cells.2.1⟩)
  clear hK K
  (try simp only [Act.put, List.setIfInBounds_toArray, List.set_cons_zero, List.set_cons_succ])
  refine wpAnyH_ready (rs := [6]) (by kernel_rfl) (by simp) ?_
  refine AllReadyH.cons (o := ?oZ47) ?hiZ47 (fun K hK => ?stZ47) AllReadyH.nil
  case hiZ47 => (simp only [List.getElem?_toArray, List.getElem?_cons_succ, List.getElem?_cons_zero] <;> rfl)
  go_simp
  go_at_call 70
  (with_reducible refine (HD6.out.of hk1 hk2 HP6.out ?_).mono ?_)
  · have hq := pairL_len (a := t.key) (b := valT nv t) (by omega)
    have hq2 := HNV.out
    omega
  rintro _ w7 ⟨g7, hg7, rfl, hr7, hb7⟩
  have HD7 := Lib.hid (HD6.out.below hb7)
  have HR7 := Lib.hid (of_in32 hr7 hk2)
  have HI7 : Hid (InBytes w7 a4 n4 cc4 zs4 ∧ InBytes w7 a5 n5 cc5 zs5) := Lib.hid ⟨HI6.out.1.below hb7, HI6.out.2.below hb7⟩
  clear hg7 hr7 hb7
  go_simp
  refine hK.out _ _ ?_ (fun hHeld => ?_)
  · (first | exact ⟨HD7.out.nine.1, HD7.out.nine.2.1, HD7.out.nine.2.2.1, HD7.out.nine.2.2.2.1, HD7.out.nine.2.2.2.2.1, HD7.out.nine.2.2.2.2.2.1, HD7.out.nine.2.2.2.2.2.2.1, HD7.out.nine.2.2.2.2.2.2.2.1, HD7.out.nine.2.2.2.2.2.2.2.2, HD7.out.box.cells.2.1⟩ | exact ⟨HD6.out.nine.1, HD6.out.nine.2.1, HD6.out.nine.2.2.1, HD6.out.nine.2.2.2.1, HD6.out.nine.2.2.2.2.1, HD6.out.nine.2.2.2.2.2.1, HD6.out.nine.2.2.2.2.2.2.1, HD6.out.nine.2.2.2.2.2.2.2.1, HD6.out.nine.2.2.2.2.2.2.2.2, HD6.out.box.cells.2.1⟩ | exact ⟨HD5.out.drew.nine.1, HD5.out.drew.nine.2.1, HD5.out.drew.nine.2.2.1, HD5.out.drew.nine.2.2.2.1, HD5.out.drew.nine.2.2.2.2.1, HD5.out.drew.nine.2.2.2.2.2.1, HD5.out.drew.nine.2.2.2.2.2.2.1, HD5.out.drew.nine.2.2.2.2.2.2.2.1, HD5.out.drew.nine.2.2.2.2.2.2.2.2, HD5.out.drew.box.cells.2.1⟩)
  clear hK K
  (try simp only [Act.put, List.setIfInBounds_toArray, List.set_cons_zero, List.set_cons_succ])
  refine take_w (i := 7) (oi := ?oZ48) (v := ?vZ48) ?hiZ48 (by kernel_rfl) (by kernel_rfl) (by kernel_rfl) ?hQZ48 ?hwZ48 ?hyZ48 (by assumption) ?restZ48
  case hiZ48 => (simp only [List.getElem?_toArray, List.getElem?_cons_succ, List.getElem?_cons_zero] <;> rfl)
  case hQZ48 => exact (fun _ _ _ h => h)
  case hwZ48 => rfl
  case hyZ48 => (intro w hSw; (try dsimp only at hSw); go_simp; try with_reducible rfl)
  (try simp only [Act.put, List.setIfInBounds_toArray, List.set_cons_zero, List.set_cons_succ])
  refine wpAnyH_done (by kernel_rfl) ?_ _
  
  clear hHeld
  go_upto_region 16 with fail
  refine wp_region_held_drew (S := (fun W => W.cell? ⟨w.heap.size, 0, none⟩ = some (.slice (some ⟨gk, 0, none⟩) 64 ck) ∧ W.cell? ⟨w.heap.size, 1, none⟩ = some (.int .u32 1779033703) ∧ W.cell? ⟨w.heap.size, 2, none⟩ = some (.int .u32 3144134277) ∧ W.cell? ⟨w.heap.size, 3, none⟩ = some (.int .u32 1013904242) ∧ W.cell? ⟨w.heap.size, 4, none⟩ = some (.int .u32 2773480762) ∧ W.cell? ⟨w.heap.size, 5, none⟩ = some (.int .u32 1359893119) ∧ W.cell? ⟨w.heap.size, 6, none⟩ = some (.int .u32 2600822924) ∧ W.cell? ⟨w.heap.size, 7, none⟩ = some (.int .u32 528734635) ∧ W.cell? ⟨w.heap.size, 8, none⟩ = some (.int .u32 1541459225))) (by kernel_rfl) HD7.out.drew.nine (fun hHeld => ?_)
  refine take_w (i := 0) (oi := ?oZ49) (v := ?vZ49) ?hiZ49 (by kernel_rfl) (by kernel_rfl) (by kernel_rfl) ?hQZ49 ?hwZ49 ?hyZ49 (by assumption) ?restZ49
  case hiZ49 => (simp only [List.getElem?_toArray, List.getElem?_cons_zero] <;> rfl)
  case hQZ49 => exact (fun _ _ _ h => h)
  case hwZ49 => rfl
  case hyZ49 => (intro w hSw; (try dsimp only at hSw); go_simp; try with_reducible rfl)
  (try simp only [Act.put, List.setIfInBounds_toArray, List.set_cons_zero, List.set_cons_succ])
  refine take_w (i := 1) (oi := ?oZ50) (v := ?vZ50) ?hiZ50 (by kernel_rfl) (by kernel_rfl) (by kernel_rfl) ?hQZ50 ?hwZ50 ?hyZ50 (by assumption) ?restZ50
  case hiZ50 => (simp only [List.getElem?_toArray, List.getElem?_cons_succ, List.getElem?_cons_zero] <;> rfl)
  case hQZ50 => exact (fun _ _ _ h => h)
  case hwZ50 => rfl
  case hyZ50 => (intro w hSw; (try dsimp only at hSw); go_simp; try with_reducible rfl)
  (try simp only [Act.put, List.setIfInBounds_toArray, List.set_cons_zero, List.set_cons_succ])
  refine take_w (i := 2) (oi := ?oZ51) (v := ?vZ51) ?hiZ51 (by kernel_rfl) (by kernel_rfl) (by kernel_rfl) ?hQZ51 ?hwZ51 ?hyZ51 (by assumption) ?restZ51
  case hiZ51 => (simp only [List.getElem?_toArray, List.getElem?_cons_succ, List.getElem?_cons_zero] <;> rfl)
  case hQZ51 => exact (fun _ _ _ h => h)
  case hwZ51 => rfl
  case hyZ51 => (intro w hSw; (try dsimp only at hSw); go_simp; try with_reducible rfl)
  (try simp only [Act.put, List.setIfInBounds_toArray, List.set_cons_zero, List.set_cons_succ])
  refine take_w (i := 3) (oi := ?oZ52) (v := ?vZ52) ?hiZ52 (by kernel_rfl) (by kernel_rfl) (by kernel_rfl) ?hQZ52 ?hwZ52 ?hyZ52 (by assumption) ?restZ52
  case hiZ52 => (simp only [List.getElem?_toArray, List.getElem?_cons_succ, List.getElem?_cons_zero] <;> rfl)
  case hQZ52 => exact (fun _ _ _ h => h)
  case hwZ52 => rfl
  case hyZ52 => (intro w hSw; (try dsimp only at hSw); go_simp; try with_reducible rfl)
  (try simp only [Act.put, List.setIfInBounds_toArray, List.set_cons_zero, List.set_cons_succ])
  refine take_w (i := 4) (oi := ?oZ53) (v := ?vZ53) ?hiZ53 (by kernel_rfl) (by kernel_rfl) (by kernel_rfl) ?hQZ53 ?hwZ53 ?hyZ53 (by assumption) ?restZ53
  case hiZ53 => (simp only [List.getElem?_toArray, List.getElem?_cons_succ, List.getElem?_cons_zero] <;> rfl)
  case hQZ53 => exact (fun _ _ _ h => h)
  case hwZ53 => rfl
  case hyZ53 => (intro w hSw; (try dsimp only at hSw); go_simp; try with_reducible rfl)
  (try simp only [Act.put, List.setIfInBounds_toArray, List.set_cons_zero, List.set_cons_succ])
  refine wpAnyH_ready (rs := [5]) (by kernel_rfl) (by simp) ?_
  refine AllReadyH.cons (o := ?oZ54) ?hiZ54 (fun K hK => ?stZ54) AllReadyH.nil
  case hiZ54 => (simp only [List.getElem?_toArray, List.getElem?_cons_succ, List.getElem?_cons_zero] <;> rfl)
  go_simp
  go_at_call 73
  (with_reducible refine (refNodeB_any a4 n4 cc4 zs4 _ nv 32 ((sumL (pairL t.key (valT nv t))).take nv) a5 n5 cc5 zs5 _ ?_ ?_ ?_ ?_ ?_ ?_).mono ?_)
  · exact HI7.out.1.below (Below.refl _ _).drew
  · omega
  · exact HR7.out.below (Below.refl _ _).drew
  · omega
  · exact HI7.out.2.below (Below.refl _ _).drew
  · omega
  rintro _ w8 ⟨g8, c8, rfl, ho8, hb8⟩
  have HD8 := Lib.hid (HD7.out.drew.below hb8)
  have HP8 := Lib.hid (InBytes.of_own ho8 (nodeL_bytes HI7.out.1.bytes HR7.out.bytes HI7.out.2.bytes))
  clear ho8 hb8
  go_simp
  refine hK.out _ _ ?_ (fun hHeld => ?_)
  · (first | exact HD9.out.nine | exact HD8.out.nine | exact HD7.out.drew.nine)
  clear hK K
  (try simp only [Act.put, List.setIfInBounds_toArray, List.set_cons_zero, List.set_cons_succ])
  refine wpAnyH_ready (rs := [6]) (by kernel_rfl) (by simp) ?_
  refine AllReadyH.cons (o := ?oZ55) ?hiZ55 (fun K hK => ?stZ55) AllReadyH.nil
  case hiZ55 => (simp only [List.getElem?_toArray, List.getElem?_cons_succ, List.getElem?_cons_zero] <;> rfl)
  go_simp
  go_at_call 70
  (with_reducible refine (HD8.out.of hk1 hk2 HP8.out ?_).mono ?_)
  · have hq := HI7.out.1.len
    have hq2 := HI7.out.2.len
    have hq3 := HR7.out.len
    rw [nodeL_len]
    omega
  rintro _ w9 ⟨g9, hg9, rfl, hr9, hb9⟩
  have HD9 := Lib.hid (HD8.out.below hb9)
  have HR9 := Lib.hid (of_in32 hr9 hk2)
  clear hg9 hr9 hb9
  go_simp
  refine hK.out _ _ ?_ (fun hHeld => ?_)
  · (first | exact HD9.out.nine | exact HD8.out.nine | exact HD7.out.drew.nine)
  clear hK K
  (try simp only [Act.put, List.setIfInBounds_toArray, List.set_cons_zero, List.set_cons_succ])
  refine take_w (i := 7) (oi := ?oZ56) (v := ?vZ56) ?hiZ56 (by kernel_rfl) (by kernel_rfl) (by kernel_rfl) ?hQZ56 ?hwZ56 ?hyZ56 (by assumption) ?restZ56
  case hiZ56 => (simp only [List.getElem?_toArray, List.getElem?_cons_succ, List.getElem?_cons_zero] <;> rfl)
  case hQZ56 => exact (fun _ _ _ h => h)
  case hwZ56 => rfl
  case hyZ56 => (intro w hSw; (try dsimp only at hSw); go_simp; try with_reducible rfl)
  (try simp only [Act.put, List.setIfInBounds_toArray, List.set_cons_zero, List.set_cons_succ])
  refine take_w (i := 8) (oi := ?oZ57) (v := ?vZ57) ?hiZ57 (by kernel_rfl) (by kernel_rfl) (by kernel_rfl) ?hQZ57 ?hwZ57 ?hyZ57 (by assumption) ?restZ57
  case hiZ57 => (simp only [List.getElem?_toArray, List.getElem?_cons_succ, List.getElem?_cons_zero] <;> rfl)
  case hQZ57 => exact (fun _ _ _ h => h)
  case hwZ57 => rfl
  case hyZ57 => (intro w hSw; (try dsimp only at hSw); go_simp; try with_reducible rfl)
  (try simp only [Act.put, List.setIfInBounds_toArray, List.set_cons_zero, List.set_cons_succ])
  refine wpAnyH_done (by kernel_rfl) ?_ _
  
  clear hHeld
  go_wp2_with fail
  go_ret2
  refine ⟨_, _, _, true, rfl, .inl ⟨rfl, _, ?_, HR9.out⟩, HD9.out.b⟩
  rw [digT_node HH.out.1 HH.out.2.1 HNV.out HH.out.2.2, HZ.out.1, HZ.out.2]
end Go.Proofs.YtkcmohmfejmfoaaGreatDoor

/- The contract of the document's Fits. -/
namespace Go.Proofs.YtkcmohmfejmfoaaGreatDoor
open Go.RowKit
set_option linter.unusedVariables false

/-- Whether a part fits: an error's number. -/
def fitsX (x : Int) (t : Tr) (i : Int) (p : Tr) : Nat :=
  if ¬ (1 ≤ x ∧ x ≤ 32) then 1
  else if checkT t ≠ 0 then checkT t
  else if checkT p ≠ 0 then checkT p
  else match digT x.toNat p with
    | none => 3
    | some zs => if fullT p = false ∨ p.k = 0 then 3 else if i < 0 ∨ ((cutsT t).length : Int) ≤ i then 9 else if (cutsT t).getD i.toNat [] = zs then 0 else 6
theorem fitsX_ok {k : Nat} (h1 : 1 ≤ k) (h2 : k ≤ 32) {t p : Tr} {i : Int} (ht : checkT t = 0) (hp : checkT p = 0) : fitsX k t i p = match digT k p with
    | none => 3
    | some zs => if fullT p = false ∨ p.k = 0 then 3 else if i < 0 ∨ ((cutsT t).length : Int) ≤ i then 9 else if (cutsT t).getD i.toNat [] = zs then 0 else 6 := by
  unfold fitsX
  rw [if_neg (by simp only [Classical.not_not]; omega), if_neg (by rw [ht]; simp), if_neg (by rw [hp]; simp)]
  rfl
/-- Boxes: the tables, the head, the part. -/
structure FW11 (w W : World) (gk ck : Nat) (h h2 : TH) : Prop where
  d : DW w W gk ck h
  box2 : Box W 25 (w.heap.size + 2) h2
section
variable {w W W' : World} {gk ck : Nat} {h h2 : TH}
theorem FW11.below (x : FW11 w W gk ck h h2) (hb : Below W.heap.size W W') : FW11 w W' gk ck h h2 := ⟨x.d.below hb, x.box2.below hb x.box2.lt⟩
theorem FW11.b (x : FW11 w W gk ck h h2) : Below w.heap.size w W := x.d.b
theorem FW11.enter (w : World) (gk ck : Nat) (h h2 : TH) (hks : Seg .u32 w gk 0 kTab) (hgk : gk < w.heap.size) : FW11 w (((w.alloc (.cells (Value.slice (some ⟨gk, 0, none⟩) 64 ck :: hTab.map (Value.int .u32)).toArray 39)).alloc (.cells #[.int .i64 h.k, .slice h.ka h.kn h.kc, .slice h.va h.vn h.vc, .slice h.da h.dn h.dc, .slice h.ta h.tn h.tc] 25)).alloc (.cells #[.int .i64 h2.k, .slice h2.ka h2.kn h2.kc, .slice h2.va h2.vn h2.vc, .slice h2.da h2.dn h2.dc, .slice h2.ta h2.tn h2.tc] 25)) gk ck h h2 := by
  have b1 : Below w.heap.size w (w.alloc (.cells (Value.slice (some ⟨gk, 0, none⟩) 64 ck :: hTab.map (Value.int .u32)).toArray 39)) := (Below.refl _ _).alloc (Nat.le_refl _) _
  have b2 := b1.alloc b1.size (.cells #[.int .i64 h.k, .slice h.ka h.kn h.kc, .slice h.va h.vn h.vc, .slice h.da h.dn h.dc, .slice h.ta h.tn h.tc] 25)
  have s2 : ((w.alloc (.cells (Value.slice (some ⟨gk, 0, none⟩) 64 ck :: hTab.map (Value.int .u32)).toArray 39)).alloc (.cells #[.int .i64 h.k, .slice h.ka h.kn h.kc, .slice h.va h.vn h.vc, .slice h.da h.dn h.dc, .slice h.ta h.tn h.tc] 25)).heap.size = w.heap.size + 2 := by simp
  have d0 : DW w ((w.alloc (.cells (Value.slice (some ⟨gk, 0, none⟩) 64 ck :: hTab.map (Value.int .u32)).toArray 39)).alloc (.cells #[.int .i64 h.k, .slice h.ka h.kn h.kc, .slice h.va h.vn h.vc, .slice h.da h.dn h.dc, .slice h.ta h.tn h.tc] 25)) gk ck h := by
    refine ⟨?_, ?_, hks.below b2 hgk, b2, hgk⟩
    · exact TB.below (heap_alloc_new w _) ((Below.refl _ _).alloc (Nat.le_refl _) _) (by simp)
    · have := Box.new (w.alloc (.cells (Value.slice (some ⟨gk, 0, none⟩) 64 ck :: hTab.map (Value.int .u32)).toArray 39)) 25 h
      simpa using this
  have x2 := Box.new ((w.alloc (.cells (Value.slice (some ⟨gk, 0, none⟩) 64 ck :: hTab.map (Value.int .u32)).toArray 39)).alloc (.cells #[.int .i64 h.k, .slice h.ka h.kn h.kc, .slice h.va h.vn h.vc, .slice h.da h.dn h.dc, .slice h.ta h.tn h.tc] 25)) 25 h2
  rw [s2] at x2
  exact ⟨d0.below ((Below.refl _ _).alloc (Nat.le_refl _) _), x2⟩
end

set_option maxRecDepth 100000 in
set_option maxHeartbeats 4000000 in
theorem refFits_any (x : Int) (hx1 : -9223372036854775808 ≤ x) (hx2 : x ≤ 9223372036854775807) (i : Int) (hi1 : -9223372036854775808 ≤ i) (hi2 : i ≤ 9223372036854775807) (gk ck : Nat) (t p : Tr) (h h2 : TH) (w : World) (ht : InTree w h t) (ht2 : InTree w h2 p) (hcn : countT t ≤ 1000) (hks : Seg .u32 w gk 0 kTab) (hgk : gk < w.heap.size) :
    Calls Tryz.prog 29 #[.agg (Value.slice (some ⟨gk, 0, none⟩) 64 ck :: hTab.map (Value.int .u32)).toArray, .int .i64 x, .agg #[.int .i64 h.k, .slice h.ka h.kn h.kc, .slice h.va h.vn h.vc, .slice h.da h.dn h.dc, .slice h.ta h.tn h.tc], .int .i64 i, .agg #[.int .i64 h2.k, .slice h2.ka h2.kn h2.kc, .slice h2.va h2.vn h2.vc, .slice h2.da h2.dn h2.dc, .slice h2.ta h2.tn h2.tc]] w (Says w (.int .i64 (fitsX x t i p : Nat))) := by
  have HD := Lib.hid (FW11.enter w gk ck h h2 hks hgk)
  have HT := Lib.hid ht
  have HT2 := Lib.hid ht2
  have HCN := Lib.hid hcn
  generalize hm : fitsX x t i p = m
  have HM := Lib.hid hm
  clear ht ht2 hks hgk hm hcn
  go_enter Tryz.func29, Tryz.ntmps29
  go_upto_region 1 with fail
  generalize (((w.alloc (.cells (Value.slice (some ⟨gk, 0, none⟩) 64 ck :: hTab.map (Value.int .u32)).toArray 39)).alloc (.cells #[.int .i64 h.k, .slice h.ka h.kn h.kc, .slice h.va h.vn h.vc, .slice h.da h.dn h.dc, .slice h.ta h.tn h.tc] 25)).alloc (.cells #[.int .i64 h2.k, .slice h2.ka h2.kn h2.kc, .slice h2.va h2.vn h2.vc, .slice h2.da h2.dn h2.dc, .slice h2.ta h2.tn h2.tc] 25)) = w0 at *
  by_cases c1 : x < 1
  · have HE : Hid (m = 1) := Lib.hid (by rw [← HM.out]; unfold fitsX; rw [if_pos (by omega)])
    go_wp2_with fail
    go_ret
    exact ⟨by rw [HE.out]; rfl, HD.out.b⟩
  by_cases c2 : (32 : Int) < x
  · have HE : Hid (m = 1) := Lib.hid (by rw [← HM.out]; unfold fitsX; rw [if_pos (by omega)])
    go_wp2_with fail
    go_ret
    exact ⟨by rw [HE.out]; rfl, HD.out.b⟩
  obtain ⟨k, hk⟩ : ∃ k : Nat, x = (k : Int) := ⟨x.toNat, by omega⟩
  subst hk
  have hk1 : 1 ≤ k := by omega
  have hk2 : k ≤ 32 := by omega
  go_upto_region 3 with fail
  clear c1 c2
  obtain ⟨x0, x1, x2, x3, x4⟩ := HD.out.d.box.cells
  by_cases hc : checkT t = 0
  case neg =>
    have HE : Hid (m = checkT t) := Lib.hid (by rw [← HM.out]; unfold fitsX; rw [if_neg (by simp only [Classical.not_not]; omega), if_pos hc])
    have hcb : ((checkT t : Int) == 0) = false := by simp; omega
    have hcc : ((checkT t : Int) != 0) = true := by simp; omega
    clear hc
    go_wp2_with (first
      | (go_at_call 26
         refine (refCheck_any t h _ (HT.out.lower HD.out.d.b)).mono ?_
         rintro _ w3 ⟨rfl, hb3⟩
         have HD3 := Lib.hid (HD.out.below hb3)
         clear hb3 x0 x1 x2 x3 x4))
    go_ret
    exact ⟨by rw [HE.out]; rfl, HD3.out.b⟩
  have HC := Lib.hid hc
  have hcb : ((checkT t : Int) == 0) = true := by rw [hc]; rfl
  clear hc
  go_upto_region 5 with (first
    | (go_at_call 26
       refine (refCheck_any t h _ (HT.out.lower HD.out.d.b)).mono ?_
       rintro _ w3 ⟨rfl, hb3⟩
       have HD3 := Lib.hid (HD.out.below hb3)
       clear hb3 x0 x1 x2 x3 x4))
  clear hcb
  obtain ⟨y0, y1, y2, y3, y4⟩ := HD3.out.box2.cells
  by_cases hp : checkT p = 0
  case neg =>
    have HE : Hid (m = checkT p) := Lib.hid (by rw [← HM.out]; unfold fitsX; rw [if_neg (by simp only [Classical.not_not]; omega), if_neg (by rw [HC.out]; simp), if_pos hp])
    have hcc : ((checkT p : Int) != 0) = true := by simp; omega
    clear hp
    go_wp2_with (first
      | (go_at_call 26
         refine (refCheck_any p h2 _ (HT2.out.lower HD3.out.d.b)).mono ?_
         rintro _ w4 ⟨rfl, hb4⟩
         have HD4 := Lib.hid (HD3.out.below hb4)
         clear hb4 y0 y1 y2 y3 y4))
    go_ret
    exact ⟨by rw [HE.out]; rfl, HD4.out.b⟩
  have HCP := Lib.hid hp
  have HF := Lib.hid (check_zeroR hp).1
  have HM2 : Hid (m = match digT k p with
    | none => 3
    | some zs => if fullT p = false ∨ p.k = 0 then 3 else if i < 0 ∨ ((cutsT t).length : Int) ≤ i then 9 else if (cutsT t).getD i.toNat [] = zs then 0 else 6) := Lib.hid (by rw [← HM.out, fitsX_ok hk1 hk2 HC.out hp])
  have hcc : ((checkT p : Int) != 0) = false := by rw [hp]; rfl
  clear hp
  go_upto_region 8 with (first
    | (go_at_call 26
       refine (refCheck_any p h2 _ (HT2.out.lower HD3.out.d.b)).mono ?_
       rintro _ w4 ⟨rfl, hb4⟩
       have HD4 := Lib.hid (HD3.out.below hb4)
       clear hb4 y0 y1 y2 y3 y4))
  clear hcc
  obtain ⟨y0, y1, y2, y3, y4⟩ := HD4.out.box2.cells
  obtain ⟨t0, t1, t2, t3, t4, t5, t6, t7, t8⟩ := HD4.out.d.nine
  cases hdg : digT k p with
  | none =>
    have HE : Hid (m = 3) := Lib.hid (by rw [HM2.out, hdg])
    have HDG := Lib.hid hdg
    clear hdg
    go_wp2_with (first
        | (go_at_call 49
           refine (refDigest_any k hk1 hk2 gk ck p h2 _ (HT2.out.lower HD4.out.d.b) HF.out HD4.out.d.ks (Nat.lt_of_lt_of_le HD4.out.d.gk HD4.out.d.b.size)).mono ?_
           rintro _ w5 ⟨a5, n5, c5, is5, rfl, hres5, hb5⟩
           have HD5 := Lib.hid (HD4.out.below hb5)
           have his : is5 = false := by
             rcases hres5 with ⟨-, zs, q1, q2⟩ | ⟨q1, -⟩
             · rw [HDG.out] at q1; cases q1
             · exact q1
           rw [his]
           clear hb5 hres5 his y0 y1 y2 y3 y4 t0 t1 t2 t3 t4 t5 t6 t7 t8
           obtain ⟨y0, y1, y2, y3, y4⟩ := HD5.out.box2.cells)
        | (go_at_call 50
           refine (refFull_any p h2 _ (HT2.out.lower HD5.out.d.b)).mono ?_
           rintro _ w6 ⟨rfl, hb6⟩
           have HD6 := Lib.hid (HD5.out.below hb6)
           clear hb6 y0 y1 y2 y3 y4
           obtain ⟨y0, y1, y2, y3, y4⟩ := HD6.out.box2.cells))
    go_ret
    exact ⟨by rw [HE.out]; rfl, HD6.out.b⟩
  | some dg =>
    have HM3 : Hid (m = if fullT p = false ∨ p.k = 0 then 3 else if i < 0 ∨ ((cutsT t).length : Int) ≤ i then 9 else if (cutsT t).getD i.toNat [] = dg then 0 else 6) := Lib.hid (by rw [HM2.out, hdg])
    have HDG := Lib.hid hdg
    clear hdg
    have HKP : Hid (h2.k = p.k) := Lib.hid (by obtain ⟨H2, hp2⟩ := HT2.out.parts; exact hp2.hk)
    cases hfu : fullT p with
    | false =>
      have HE : Hid (m = 3) := Lib.hid (by rw [HM3.out, if_pos (.inl hfu)])
      go_wp2_with (first
        | (go_at_call 49
           refine (refDigest_any k hk1 hk2 gk ck p h2 _ (HT2.out.lower HD4.out.d.b) HF.out HD4.out.d.ks (Nat.lt_of_lt_of_le HD4.out.d.gk HD4.out.d.b.size)).mono ?_
           rintro _ w5 ⟨a5, n5, c5, is5, rfl, hres5, hb5⟩
           have HD5 := Lib.hid (HD4.out.below hb5)
           obtain ⟨his, hi5⟩ : is5 = true ∧ InBytes w5 a5 n5 c5 dg := by
             rcases hres5 with ⟨q1, zs, q2, q3⟩ | ⟨-, q1⟩
             · rw [HDG.out] at q2
               injection q2 with q2
               subst q2
               exact ⟨q1, q3⟩
             · rw [HDG.out] at q1; cases q1
           have HI5 := Lib.hid hi5
           clear hi5
           rw [his]
           clear hb5 hres5 his y0 y1 y2 y3 y4 t0 t1 t2 t3 t4 t5 t6 t7 t8
           obtain ⟨y0, y1, y2, y3, y4⟩ := HD5.out.box2.cells)
        | (go_at_call 50
           refine (refFull_any p h2 _ (HT2.out.lower HD5.out.d.b)).mono ?_
           rintro _ w6 ⟨rfl, hb6⟩
           have HD6 := Lib.hid (HD5.out.below hb6)
           clear hb6 y0 y1 y2 y3 y4
           obtain ⟨y0, y1, y2, y3, y4⟩ := HD6.out.box2.cells))
      go_ret
      exact ⟨by rw [HE.out]; rfl, HD6.out.b⟩
    | true =>
      by_cases hk0 : p.k = 0
      case pos =>
        have HE : Hid (m = 3) := Lib.hid (by rw [HM3.out, if_pos (.inr hk0)])
        have e0 : (h2.k == 0) = true := by rw [HKP.out, hk0]; rfl
        clear hk0
        go_wp2_with (first
        | (go_at_call 49
           refine (refDigest_any k hk1 hk2 gk ck p h2 _ (HT2.out.lower HD4.out.d.b) HF.out HD4.out.d.ks (Nat.lt_of_lt_of_le HD4.out.d.gk HD4.out.d.b.size)).mono ?_
           rintro _ w5 ⟨a5, n5, c5, is5, rfl, hres5, hb5⟩
           have HD5 := Lib.hid (HD4.out.below hb5)
           obtain ⟨his, hi5⟩ : is5 = true ∧ InBytes w5 a5 n5 c5 dg := by
             rcases hres5 with ⟨q1, zs, q2, q3⟩ | ⟨-, q1⟩
             · rw [HDG.out] at q2
               injection q2 with q2
               subst q2
               exact ⟨q1, q3⟩
             · rw [HDG.out] at q1; cases q1
           have HI5 := Lib.hid hi5
           clear hi5
           rw [his]
           clear hb5 hres5 his y0 y1 y2 y3 y4 t0 t1 t2 t3 t4 t5 t6 t7 t8
           obtain ⟨y0, y1, y2, y3, y4⟩ := HD5.out.box2.cells)
        | (go_at_call 50
           refine (refFull_any p h2 _ (HT2.out.lower HD5.out.d.b)).mono ?_
           rintro _ w6 ⟨rfl, hb6⟩
           have HD6 := Lib.hid (HD5.out.below hb6)
           clear hb6 y0 y1 y2 y3 y4
           obtain ⟨y0, y1, y2, y3, y4⟩ := HD6.out.box2.cells))
        go_ret
        exact ⟨by rw [HE.out]; rfl, HD6.out.b⟩
      have HM4 : Hid (m = if i < 0 ∨ ((cutsT t).length : Int) ≤ i then 9 else if (cutsT t).getD i.toNat [] = dg then 0 else 6) := Lib.hid (by rw [HM3.out, if_neg (by rw [hfu]; simp [hk0])])
      have e0 : (h2.k == 0) = false := by rw [HKP.out]; simpa using hk0
      clear hk0
      go_upto_region 12 with (first
        | (go_at_call 49
           refine (refDigest_any k hk1 hk2 gk ck p h2 _ (HT2.out.lower HD4.out.d.b) HF.out HD4.out.d.ks (Nat.lt_of_lt_of_le HD4.out.d.gk HD4.out.d.b.size)).mono ?_
           rintro _ w5 ⟨a5, n5, c5, is5, rfl, hres5, hb5⟩
           have HD5 := Lib.hid (HD4.out.below hb5)
           obtain ⟨his, hi5⟩ : is5 = true ∧ InBytes w5 a5 n5 c5 dg := by
             rcases hres5 with ⟨q1, zs, q2, q3⟩ | ⟨-, q1⟩
             · rw [HDG.out] at q2
               injection q2 with q2
               subst q2
               exact ⟨q1, q3⟩
             · rw [HDG.out] at q1; cases q1
           have HI5 := Lib.hid hi5
           clear hi5
           rw [his]
           clear hb5 hres5 his y0 y1 y2 y3 y4 t0 t1 t2 t3 t4 t5 t6 t7 t8
           obtain ⟨y0, y1, y2, y3, y4⟩ := HD5.out.box2.cells)
        | (go_at_call 50
           refine (refFull_any p h2 _ (HT2.out.lower HD5.out.d.b)).mono ?_
           rintro _ w6 ⟨rfl, hb6⟩
           have HD6 := Lib.hid (HD5.out.below hb6)
           have HI6 := Lib.hid (HI5.out.below hb6)
           clear hb6 y0 y1 y2 y3 y4
           obtain ⟨y0, y1, y2, y3, y4⟩ := HD6.out.box2.cells))
      clear e0 hfu y0 y1 y2 y3 y4
      obtain ⟨x0, x1, x2, x3, x4⟩ := HD6.out.d.box.cells
      go_upto_region 13 with (first
        | (go_at_call 28
           refine (refCuts_any w t h _ HT.out HD6.out.b HCN.out).mono ?_
           rintro _ w7 ⟨v7, rs, rfl, ho7, hs7, hb7⟩
           obtain ⟨a7, c7, hv7⟩ := ho7.sl
           subst hv7
           have HD7 := Lib.hid (HD6.out.below hb7)
           have HO7 := Lib.hid ho7
           have HS7 := Lib.hid hs7
           have HI7 := Lib.hid (HI6.out.below hb7)
           clear ho7 hs7 hb7 x0 x1 x2 x3 x4))
      have HL : Hid (rs.length = (cutsT t).length) := Lib.hid HS7.out.1
      by_cases d1 : i < 0
      · have HE : Hid (m = 9) := Lib.hid (by rw [HM4.out, if_pos (.inl d1)])
        go_wp2_with fail
        go_ret
        exact ⟨by rw [HE.out]; rfl, HD7.out.b⟩
      by_cases d2 : (rs.length : Int) ≤ i
      · have HE : Hid (m = 9) := Lib.hid (by rw [HM4.out, if_pos (.inr (by rw [← HL.out]; exact d2))])
        go_wp2_with fail
        go_ret
        exact ⟨by rw [HE.out]; rfl, HD7.out.b⟩
      obtain ⟨j, hj⟩ : ∃ j : Nat, i = (j : Int) := ⟨i.toNat, by omega⟩
      subst hj
      have hjr : j < rs.length := by omega
      have hjc : j < (cutsT t).length := by rw [← HL.out]; exact hjr
      have HM5 : Hid (m = if (cutsT t)[j] = dg then 0 else 6) := Lib.hid (by
        rw [HM4.out, if_neg (by rw [← HL.out]; omega)]
        have e : (cutsT t).getD (j : Int).toNat [] = (cutsT t)[j] := by
          rw [Int.toNat_natCast, List.getD, List.getElem?_eq_getElem hjc, Option.getD_some]
        rw [e])
      go_upto_region 15 with fail
      have hjn : (j : Int) < (rs.length : Int) := by omega
      clear d1 d2
      obtain ⟨g, ea, hcs⟩ := HO7.out.at j hjr
      subst ea
      have hin := HS7.out.2 j hjr hjc
      have hcell : ∀ mm, (w7.drewN mm).cell? ⟨g, j, none⟩ = some (.slice (rs[j]).a (rs[j]).n (rs[j]).c) := fun mm => by
        have q := hcs 0 _ rfl
        rw [show recSl.sz = 1 from rfl, Nat.mul_one, Nat.add_zero] at q
        exact q
      generalize (cutsT t)[j] = z at hin HM5
      have hcv1 : ∀ mm, (convert 22 9 (.slice (rs[j]).a (rs[j]).n (rs[j]).c)).run Tryz.prog (w7.drewN mm) = .ok (.string (strOfNums z)) (w7.drewN mm) := fun mm => conv_key (w := w7.drewN mm) (hin.below (below_drawn HD7.out.b mm))
      have hcv2 : ∀ mm, (convert 22 9 (.slice a5 n5 c5)).run Tryz.prog (w7.drewN mm) = .ok (.string (strOfNums dg)) (w7.drewN mm) := fun mm => conv_key (w := w7.drewN mm) (HI7.out.below (below_drawn (Below.refl _ _) mm))
      have hse := str_eq hin.bytes HI7.out.bytes
      cases hz : z == dg with
      | true =>
        have HE : Hid (m = 0) := Lib.hid (by rw [HM5.out, if_pos (by simpa using hz)])
        rw [hz] at hse
        have hsn : ((strOfNums z).toList != (strOfNums dg).toList) = false := by simpa using hse
        clear hz hin hcs
        go_quiet (fail)
        go_wp2_with fail
        go_ret
        exact ⟨by rw [HE.out]; rfl, below_drawn HD7.out.b _⟩
      | false =>
        have HE : Hid (m = 6) := Lib.hid (by rw [HM5.out, if_neg (by simpa using hz)])
        rw [hz] at hse
        have hsn : ((strOfNums z).toList != (strOfNums dg).toList) = true := by simpa using hse
        clear hz hin hcs
        go_quiet (fail)
        go_wp2_with fail
        go_ret
        exact ⟨by rw [HE.out]; rfl, below_drawn HD7.out.b _⟩
end Go.Proofs.YtkcmohmfejmfoaaGreatDoor

/- What the program's Cut, Fits, Join and Count of layer 11 tell, as their contracts say it. -/
namespace Go.Proofs.YtkcmohmfejmfoaaGreatDoor
open Go.RowKit
set_option linter.unusedVariables false

/-- Trees that lie side by side. -/
structure TreesAt (w : World) (a : Option Addr) (n c : Nat) (ts : List Tr) (H : Nat → TH) : Prop where
  sl : InSl w a n c 5 (fun i => (H (i / 5)).cell (i % 5))
  len : ts.length = n
  all : ∀ i (hi : i < ts.length), InTree w (H i) ts[i]
theorem TreesAt.below {w w' : World} {a : Option Addr} {n c : Nat} {ts : List Tr} {H : Nat → TH} (x : TreesAt w a n c ts H) (hb : Below w.heap.size w w') : TreesAt w' a n c ts H := ⟨x.sl.below hb, x.len, fun i hi => (x.all i hi).lower hb⟩
/-- A full tree, by its nodes. -/
def toA (t : Tr) : AT := t.fold fun t rs => if t.k = 1 then .node (rs.getD 0 .nil) t.key t.val (rs.getD 1 .nil) else .nil
theorem toA_tr : ∀ a : AT, toA a.tr = a := by
  intro a
  induction a with
  | nil =>
    unfold toA
    rw [Tr.fold_eq]
    rfl
  | node l key v r ihl ihr =>
    unfold toA at ihl ihr ⊢
    rw [Tr.fold_eq]
    show AT.node (Tr.fold _ l.tr) key v (Tr.fold _ r.tr) = _
    rw [ihl, ihr]
/-- Cut: the error's number, the head, the parts. -/
def cutX (x : Int) (t : Tr) (n : Int) : Nat × Tr × List Tr :=
  if ¬ (0 ≤ n ∧ n ≤ 64) ∨ ¬ (1 ≤ x ∧ x ≤ 32) then (1, tNil, [])
  else if toldD x t ≠ 0 then (toldD x t, tNil, [])
  else if fullT t = false then (3, tNil, [])
  else (0, (headA x.toNat n.toNat (toA t)).tr, (partsA n.toNat (toA t)).map AT.tr)
/-- Count: how many digests are missing. -/
def countX (t : Tr) : Nat := if checkT t = 0 then (cutsT t).length else 0
/-- The first part that does not fit: its number among the parts, and the error's. -/
def badX (x : Int) (t : Tr) : Nat → List Tr → Option (Nat × Nat)
  | _, [] => none
  | i, p :: ps => if fitsX x t i p = 0 then badX x t (i + 1) ps else some (i, fitsX x t i p)
/-- Join: the error's number, its place where it has one, the tree. -/
def joinX (x : Int) (t : Tr) (ps : List Tr) : Nat × Option Nat × Tr :=
  if ¬ (1 ≤ x ∧ x ≤ 32) then (1, none, tNil)
  else if checkT t ≠ 0 then (checkT t, none, tNil)
  else if (cutsT t).length ≠ ps.length ∨ darkP (toP t) = true then (3, none, tNil)
  else match badX x t 0 ps with
    | some (i, m) => (m, if m = 6 then some i else none, tNil)
    | none => if checkT (fillA (toP t) (ps.map toA)).1.tr ≠ 0 then (checkT (fillA (toP t) (ps.map toA)).1.tr, none, tNil) else (0, none, (fillA (toP t) (ps.map toA)).1.tr)
theorem fitsX_le (x : Int) (t : Tr) (i : Int) (p : Tr) : fitsX x t i p ≤ 13 := by
  have hc : ∀ s : Tr, checkT s ≤ 13 := fun s => by
    unfold checkT
    split
    · omega
    · split <;> omega
  unfold fitsX
  split
  · omega
  · split
    · exact hc t
    · split
      · exact hc p
      · split
        · omega
        · split
          · omega
          · split
            · omega
            · split <;> omega
/-- Cut's answer. -/
def CutTold (w : World) (r : Nat × Tr × List Tr) (e : Ending) (w' : World) : Prop := ∃ (h' : TH) (a : Option Addr) (n c : Nat) (H : Nat → TH), e = .returned (.tuple #[h'.v, .slice a n c, codeV r.1]) ∧ InTree w' h' r.2.1 ∧ TreesAt w' a n c r.2.2 H ∧ Below w.heap.size w w'
/-- An error that may be at a place: a Code, or a Spot in new memory. -/
def SpotV (w w' : World) (m : Nat) (at' : Option Nat) (v : Value) : Prop := match at' with
  | none => v = codeV m
  | some i => ∃ g, v = .iface 61 (.pointer (some ⟨g, 0, none⟩)) ∧ w.heap.size ≤ g ∧ w'.heap[g]? = some (.cells #[.int .i64 i, codeV m] 63 (0, 0))
/-- Join's answer. -/
def JoinTold (w : World) (r : Nat × Option Nat × Tr) (e : Ending) (w' : World) : Prop := ∃ (h' : TH) (v : Value), e = .returned (.tuple #[h'.v, v]) ∧ InTree w' h' r.2.2 ∧ SpotV w w' r.1 r.2.1 v ∧ Below w.heap.size w w'
end Go.Proofs.YtkcmohmfejmfoaaGreatDoor

/- What is laid together has the head's digest, by what Join asks of its parts. No program is named here. -/
namespace Go.Proofs.YtkcmohmfejmfoaaGreatDoor
open Go.RowKit
set_option linter.unusedVariables false

theorem PT.full_at : ∀ p : PT, fullT p.tr = true → ∃ a : AT, p.tr = a.tr := by
  intro p
  induction p with
  | nil => exact fun _ => ⟨.nil, rfl⟩
  | cut d =>
    intro h
    rw [fullT_eq] at h
    cases h
  | shown l key v r ihl ihr =>
    intro h
    rw [fullT_eq] at h
    have h' : (true && ([l.tr, r.tr].all fullT)) = true := h
    rw [Bool.true_and, List.all_cons, List.all_cons, Bool.and_eq_true, Bool.and_eq_true] at h'
    obtain ⟨a, ha⟩ := ihl h'.1
    obtain ⟨b, hb⟩ := ihr h'.2.1
    exact ⟨.node a key v b, by show Tr.mk 1 key v [] [l.tr, r.tr] = _; rw [ha, hb]; rfl⟩
  | dark l key d r ihl ihr =>
    intro h
    rw [fullT_eq] at h
    cases h
theorem full_at {t : Tr} (hc : checkT t = 0) (hf : fullT t = true) : ∃ a : AT, t = a.tr := by
  obtain ⟨p, rfl⟩ := PT.of t (check_zeroR hc).1
  exact p.full_at hf
theorem cutsT_P : ∀ p : PT, cutsT p.tr = cutsP p := by
  intro p
  induction p with
  | nil =>
    rw [cutsT_eq]
    rfl
  | cut d =>
    rw [cutsT_eq]
    rfl
  | shown l key v r ihl ihr =>
    rw [cutsT_eq]
    show ([l.tr, r.tr].map cutsT).flatten = _
    simp only [List.map_cons, List.map_nil, List.flatten_cons, List.flatten_nil, List.append_nil]
    rw [ihl, ihr]
    rfl
  | dark l key d r ihl ihr =>
    rw [cutsT_eq]
    show ([l.tr, r.tr].map cutsT).flatten = _
    simp only [List.map_cons, List.map_nil, List.flatten_cons, List.flatten_nil, List.append_nil]
    rw [ihl, ihr]
    rfl
/-- A part that fits. -/
theorem fits_zero {x : Int} {t p : Tr} {i : Nat} (h : fitsX x t i p = 0) : ∃ k : Nat, x = k ∧ 1 ≤ k ∧ k ≤ 32 ∧ checkT t = 0 ∧ ∃ a : AT, p = a.tr ∧ ∃ hi : i < (cutsT t).length, (cutsT t)[i] = digA k a := by
  unfold fitsX at h
  split at h
  · cases h
  · rename_i hx
    split at h
    · exact absurd h (by assumption)
    · rename_i hc
      split at h
      · exact absurd h (by assumption)
      · rename_i hp
        have hx' : 1 ≤ x ∧ x ≤ 32 := by simpa only [Classical.not_not] using hx
        have hc' : checkT t = 0 := by simpa using hc
        have hp' : checkT p = 0 := by simpa using hp
        split at h
        · cases h
        · rename_i zs hz
          split at h
          · cases h
          · rename_i hf
            split at h
            · cases h
            · rename_i hi
              split at h
              · rename_i he
                have hfu : fullT p = true := by
                  cases q : fullT p with
                  | true => rfl
                  | false => exact absurd (.inl q) hf
                obtain ⟨a, rfl⟩ := full_at hp' hfu
                have hil : i < (cutsT t).length := by omega
                refine ⟨x.toNat, by omega, by omega, by omega, hc', a, rfl, hil, ?_⟩
                rw [AT.digs (by omega)] at hz
                injection hz with hz
                rw [hz, ← he, Int.toNat_natCast, List.getD, List.getElem?_eq_getElem hil]
                rfl
              · cases h
theorem bad_none {x : Int} {t : Tr} : ∀ (ps : List Tr) (i : Nat), badX x t i ps = none → ∀ j (hj : j < ps.length), fitsX x t ((i + j : Nat) : Int) ps[j] = 0 := by
  intro ps
  induction ps with
  | nil => exact fun i _ j hj => absurd hj (Nat.not_lt_zero j)
  | cons p ps ih =>
    intro i h j hj
    rw [badX] at h
    split at h
    · rename_i h0
      cases j with
      | zero => exact h0
      | succ j =>
        have q := ih (i + 1) h j (by simpa using hj)
        rw [show i + (j + 1) = i + 1 + j by omega]
        exact q
    · cases h
end Go.Proofs.YtkcmohmfejmfoaaGreatDoor
