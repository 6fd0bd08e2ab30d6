/- Plain facts on a block's words. No program is named here. -/
import Derived.Test.YtcplfpnaepdddaaDoorLib
import Derived.Test.YtcplfpnaepdddaaDoorShaMath
namespace Go.Proofs.YtcplfpnaepdddaaDoor
set_option linter.unusedVariables false

def wordOf (a b c d : Int) : Int := 16777216 * a + 65536 * b + 256 * c + d
def sp3 (x i j s : Int) : Int := bits .xor .u32 (bits .xor .u32 (rotr x i) (rotr x j)) (x / 2 ^ s.toNat)
def wordAt (bs : List Int) (i : Nat) : Int := wordOf (bs.getD (4 * i) 0) (bs.getD (4 * i + 1) 0) (bs.getD (4 * i + 2) 0) (bs.getD (4 * i + 3) 0)
def first16 (bs : List Int) (k : Nat) : List Int := (List.range k).map (wordAt bs)
/-- The word behind the words m, 16 ≤ m.length. -/
def nextW (m : List Int) : Int := (m.getD (m.length - 16) 0 + sp3 (m.getD (m.length - 15) 0) 7 18 3 + m.getD (m.length - 7) 0 + sp3 (m.getD (m.length - 2) 0) 17 19 10) % 4294967296
def extW (l : List Int) : Nat → List Int
  | 0 => l
  | k + 1 => extW l k ++ [nextW (extW l k)]
/-- The 64 words of a block. -/
def sched (bs : List Int) : List Int := extW (first16 bs 16) 48

theorem first16_length (bs : List Int) (k : Nat) : (first16 bs k).length = k := by simp [first16]
theorem extW_length (l : List Int) : ∀ k, (extW l k).length = l.length + k
  | 0 => rfl
  | k + 1 => by simp [extW, extW_length l k]; omega
theorem sched_length (bs : List Int) : (sched bs).length = 64 := by simp [sched, extW_length, first16_length]
theorem first16_succ (bs : List Int) (k : Nat) : first16 bs (k + 1) = first16 bs k ++ [wordAt bs k] := by simp [first16, List.range_succ]
theorem or_bytes (a b c d : Int) (ha : 0 ≤ a) (ha2 : a ≤ 255) (hb : 0 ≤ b) (hb2 : b ≤ 255) (hc : 0 ≤ c) (hc2 : c ≤ 255) (hd : 0 ≤ d) (hd2 : d ≤ 255) :
    bits .or .u32 (bits .or .u32 (bits .or .u32 (a * 16777216) (b * 65536)) (c * 256)) d = wordOf a b c d := by
  obtain ⟨a, rfl⟩ := Int.eq_ofNat_of_zero_le ha
  obtain ⟨b, rfl⟩ := Int.eq_ofNat_of_zero_le hb
  obtain ⟨c, rfl⟩ := Int.eq_ofNat_of_zero_le hc
  obtain ⟨d, rfl⟩ := Int.eq_ofNat_of_zero_le hd
  have e1 : (a : Int) * 16777216 = ((a * 16777216 : Nat) : Int) := by omega
  have e2 : (b : Int) * 65536 = ((b * 65536 : Nat) : Int) := by omega
  have e3 : (c : Int) * 256 = ((c * 256 : Nat) : Int) := by omega
  have j1 := nat_join 24 (a * 16777216) (b * 65536) (by omega) (by omega)
  have j2 := nat_join 16 (a * 16777216 + b * 65536) (c * 256) (by omega) (by omega)
  have j3 := nat_join 8 (a * 16777216 + b * 65536 + c * 256) d (by omega) (by omega)
  rw [e1, e2, e3, u32_or_nat _ _ (by omega) (by omega), j1, u32_or_nat _ _ (by omega) (by omega), j2, u32_or_nat _ _ (by omega) (by omega), j3]
  unfold wordOf
  omega
def Words32 (l : List Int) : Prop := ∀ z ∈ l, 0 ≤ z ∧ z ≤ 4294967295
theorem word_at {l : List Int} (h : Words32 l) (i : Nat) : 0 ≤ l.getD i 0 ∧ l.getD i 0 ≤ 4294967295 := by
  by_cases hi : i < l.length
  · have := h l[i] (List.getElem_mem hi)
    simpa [List.getD, hi] using this
  · simp [List.getD, List.getElem?_eq_none (by omega : l.length ≤ i)]
theorem wordAt_bd {bs : List Int} (h : Bytes8 bs) (i : Nat) : 0 ≤ wordAt bs i ∧ wordAt bs i ≤ 4294967295 := by
  have h0 := byte_at h (4 * i)
  have h1 := byte_at h (4 * i + 1)
  have h2 := byte_at h (4 * i + 2)
  have h3 := byte_at h (4 * i + 3)
  unfold wordAt wordOf
  omega
theorem first16_bd {bs : List Int} (h : Bytes8 bs) (k : Nat) : Words32 (first16 bs k) := by
  intro z hz
  simp only [first16, List.mem_map] at hz
  obtain ⟨i, _, rfl⟩ := hz
  exact wordAt_bd h i
theorem extW_bd {l : List Int} (h : Words32 l) : ∀ k, Words32 (extW l k)
  | 0 => h
  | k + 1 => by
    intro z hz
    simp only [extW, List.mem_append, List.mem_singleton] at hz
    rcases hz with hz | rfl
    · exact extW_bd h k z hz
    · unfold nextW; omega
theorem sched_bd {bs : List Int} (h : Bytes8 bs) : Words32 (sched bs) := extW_bd (first16_bd h 16) 48
theorem sp3_bd (x i j s : Int) : 0 ≤ sp3 x i j s ∧ sp3 x i j s ≤ 4294967295 := bits_bd _ _ _
theorem wrap_sum (a b c d : Int) : IntKind.u32.wrap (IntKind.u32.wrap (IntKind.u32.wrap (a + b) + c) + d) = (a + b + c + d) % 4294967296 := by
  simp only [IntKind.wrap_u32']
  omega
theorem mod_sum (a b c d : Int) : (((a + b) % 4294967296 + c) % 4294967296 + d) % 4294967296 = (a + b + c + d) % 4294967296 := by
  omega
theorem set_at (l : List Int) (n : Nat) (z : Int) : (l ++ List.replicate (n + 1) (0 : Int)).set l.length z = (l ++ [z]) ++ List.replicate n 0 := by
  rw [List.set_append_right _ _ (Nat.le_refl _), Nat.sub_self, List.replicate_succ, List.set_cons_zero, List.append_assoc]
  rfl
theorem getD_app (l r : List Int) (i : Nat) (h : i < l.length) : (l ++ r).getD i 0 = l.getD i 0 := by
  simp [List.getD, List.getElem?_append_left h]
end Go.Proofs.YtcplfpnaepdddaaDoor
