/- Plain facts on 32 bit words: turning to the right, the two sums of a round. No program is named here. Plain facts on the tail: its bytes as a list. No program is named here. Plain facts on a block's words. No program is named here. Plain facts on a step: 64 rounds and a sum; the tables as lists. No program is named here. Plain facts on steps one behind the other. No program is named here. Plain functions after the document's reckoning of roots by digits of 16 bits. No program is named here. -/
import Derived.WalkKit
import Derived.Test.YtcplfpnaepdddaaDoorLib
/- Plain facts on 32 bit words: turning to the right, the two sums of a round. No program is named here. -/
namespace Go.Proofs.YtcplfpnaepdddaaDoor
set_option linter.unusedVariables false

/-- x turned to the right by k, 1 ≤ k ≤ 31. -/
def rotr (x k : Int) : Int := bits .or .u32 (x / 2 ^ k.toNat) (x * 2 ^ (32 - k).toNat % 4294967296)
def rot3 (x i j k : Int) : Int := bits .xor .u32 (bits .xor .u32 (rotr x i) (rotr x j)) (rotr x k)
def lowS (e f g h k v : Int) : Int :=
  (h + rot3 e 6 11 25 + bits .xor .u32 (bits .and .u32 e f) (bits .and .u32 (bits .xor .u32 IntKind.u32.max e) g) + k + v) % 4294967296
def upS (a b c : Int) : Int :=
  (rot3 a 2 13 22 + bits .xor .u32 (bits .xor .u32 (bits .and .u32 a b) (bits .and .u32 a c)) (bits .and .u32 b c)) % 4294967296

/-- The eight words as the model holds an array of them. -/
def agg8 (a b c d e f g h : Int) : Value := .agg #[.int .u32 a, .int .u32 b, .int .u32 c, .int .u32 d, .int .u32 e, .int .u32 f, .int .u32 g, .int .u32 h]
/-- The words behind a round. -/
def rndV (a b c d e f g h k v : Int) : Value :=
  agg8 ((lowS e f g h k v + upS a b c) % 4294967296) a b c ((d + lowS e f g h k v) % 4294967296) e f g

theorem bits_bd (op : BinOp) (a b : Int) : 0 ≤ bits op .u32 a b ∧ bits op .u32 a b ≤ 4294967295 := by
  unfold bits
  dsimp only
  rw [IntKind.wrap_u32']
  omega
theorem bits_or_comm (a b : Int) : bits .or .u32 a b = bits .or .u32 b a := by
  simp [bits, BitVec.or_comm]
theorem mask_neg (k : Int) (h1 : 1 ≤ k) (h2 : k ≤ 31) : bits .and .u64 (IntKind.u64.wrap (-k)) 31 = 32 - k := by
  rw [IntKind.wrap_u64, u64_and _ _ (by omega) (by omega) (by omega) (by omega)]
  rw [show (31 : Int).toNat = 31 from rfl, nat_mask5]
  omega
theorem rotr_other (x k : Int) : bits .or .u32 (x * 2 ^ (32 - k).toNat % 4294967296) (x / 2 ^ (32 - (32 - k)).toNat) = rotr x k := by
  rw [bits_or_comm, show (32 - (32 - k)) = k by omega]
  rfl
theorem rotr_bd (x k : Int) : 0 ≤ rotr x k ∧ rotr x k ≤ 4294967295 := bits_bd _ _ _
theorem rot3_bd (x i j k : Int) : 0 ≤ rot3 x i j k ∧ rot3 x i j k ≤ 4294967295 := bits_bd _ _ _
theorem lowS_bd (e f g h k v : Int) : 0 ≤ lowS e f g h k v ∧ lowS e f g h k v ≤ 4294967295 := by unfold lowS; omega
theorem upS_bd (a b c : Int) : 0 ≤ upS a b c ∧ upS a b c ≤ 4294967295 := by unfold upS; omega
theorem ret_int {k : IntKind} {a b : Int} (h : a = b) : Ending.returned (.int k a) = .returned (.int k b) := by rw [h]
end Go.Proofs.YtcplfpnaepdddaaDoor

/- Plain facts on the tail: its bytes as a list. No program is named here. -/
namespace Go.Proofs.YtcplfpnaepdddaaDoor
set_option linter.unusedVariables false

/-- zs, the first k of n bytes of x, the greatest first, laid at the place off. -/
def putB (zs : List Int) (off n : Nat) (x : Int) : Nat → List Int
  | 0 => zs
  | k + 1 => (putB zs off n x k).set (off + k) (x / 2 ^ (8 * (n - 1 - k)) % 256)
theorem putB_length (zs : List Int) (off n : Nat) (x : Int) : ∀ k, (putB zs off n x k).length = zs.length
  | 0 => rfl
  | k + 1 => by simp [putB, putB_length zs off n x k]
theorem putB_append (pre l : List Int) (n : Nat) (x : Int) : ∀ k, putB (pre ++ l) pre.length n x k = pre ++ putB l 0 n x k
  | 0 => rfl
  | k + 1 => by
    simp only [putB]
    rw [putB_append pre l n x k, List.set_append_right _ _ (by omega)]
    simp
def nils (n : Nat) : Nat := (119 - n % 64) % 64
def be8 (x : Int) : List Int := [x / 72057594037927936 % 256, x / 281474976710656 % 256, x / 1099511627776 % 256, x / 4294967296 % 256, x / 16777216 % 256, x / 65536 % 256, x / 256 % 256, x % 256]
/-- What stands behind n bytes. -/
def tailL (n : Nat) : List Int := 128 :: (List.replicate (nils n) 0 ++ be8 (8 * n))
theorem tailL_length (n : Nat) : (tailL n).length = nils n + 9 := by simp [tailL, be8]
theorem rep_snoc (j : Nat) : (128 :: List.replicate j (0 : Int)).map (Value.int .u8) ++ [.int .u8 0] = (128 :: List.replicate (j + 1) (0 : Int)).map (Value.int .u8) := by
  simp [List.replicate_succ']
/-- The bytes of x, of which the last 8 - m are laid. -/
def bitsAt (x : Int) (m : Nat) : List Int := List.replicate m 0 ++ (be8 x).drop m
theorem bitsAt_length (x : Int) (m : Nat) (h : m ≤ 8) : (bitsAt x m).length = 8 := by simp [bitsAt, be8]; omega
theorem bitsAt_step (x : Int) (m : Nat) (h : m < 8) : (bitsAt x (m + 1)).set m (x / 256 ^ (7 - m) % 256) = bitsAt x m := by
  have : m = 0 ∨ m = 1 ∨ m = 2 ∨ m = 3 ∨ m = 4 ∨ m = 5 ∨ m = 6 ∨ m = 7 := by omega
  rcases this with rfl | rfl | rfl | rfl | rfl | rfl | rfl | rfl <;> simp [bitsAt, be8, List.replicate]
theorem pow_step (x : Int) (m : Nat) (h : m < 8) : x / 256 ^ (7 - m) / 256 = x / 256 ^ (8 - m) := by
  rw [Int.ediv_ediv_of_nonneg (Int.pow_nonneg (by omega)), ← Int.pow_succ, show (7 - m).succ = 8 - m by omega]
theorem nils_lt (n : Nat) : nils n < 64 := by unfold nils; omega
theorem set_first (z : Nat) : (List.replicate (z + 9) (0 : Int)).set 0 128 = 128 :: (List.replicate z 0 ++ List.replicate 8 0) := by
  rw [show z + 9 = (z + 8) + 1 from rfl, List.replicate_succ, List.set_cons_zero, List.replicate_append_replicate]
theorem putB_tail (n : Nat) : putB (128 :: (List.replicate (nils n) 0 ++ List.replicate 8 0)) (1 + nils n) 8 (8 * n) 8 = tailL n := by
  have h := putB_append (128 :: List.replicate (nils n) 0) (List.replicate 8 0) 8 (8 * n) 8
  simp only [List.length_cons, List.length_replicate, List.cons_append] at h
  rw [Nat.add_comm 1, h]
  simp [tailL, be8, putB, List.replicate]
end Go.Proofs.YtcplfpnaepdddaaDoor

/- Plain facts on a block's words. No program is named here. -/
namespace Go.Proofs.YtcplfpnaepdddaaDoor
set_option linter.unusedVariables false

def wordOf (a b c d : Int) : Int := 16777216 * a + 65536 * b + 256 * c + d
def sp3 (x i j s : Int) : Int := bits .xor .u32 (bits .xor .u32 (rotr x i) (rotr x j)) (x / 2 ^ s.toNat)
def wordAt (bs : List Int) (i : Nat) : Int := wordOf (bs.getD (4 * i) 0) (bs.getD (4 * i + 1) 0) (bs.getD (4 * i + 2) 0) (bs.getD (4 * i + 3) 0)
def first16 (bs : List Int) (k : Nat) : List Int := (List.range k).map (wordAt bs)
/-- The word behind the words m, 16 ≤ m.length. -/
def nextW (m : List Int) : Int := (m.getD (m.length - 16) 0 + sp3 (m.getD (m.length - 15) 0) 7 18 3 + m.getD (m.length - 7) 0 + sp3 (m.getD (m.length - 2) 0) 17 19 10) % 4294967296
def extW (l : List Int) : Nat → List Int
  | 0 => l
  | k + 1 => extW l k ++ [nextW (extW l k)]
/-- The 64 words of a block. -/
def sched (bs : List Int) : List Int := extW (first16 bs 16) 48

theorem first16_length (bs : List Int) (k : Nat) : (first16 bs k).length = k := by simp [first16]
theorem extW_length (l : List Int) : ∀ k, (extW l k).length = l.length + k
  | 0 => rfl
  | k + 1 => by simp [extW, extW_length l k]; omega
theorem sched_length (bs : List Int) : (sched bs).length = 64 := by simp [sched, extW_length, first16_length]
theorem first16_succ (bs : List Int) (k : Nat) : first16 bs (k + 1) = first16 bs k ++ [wordAt bs k] := by simp [first16, List.range_succ]
theorem or_bytes (a b c d : Int) (ha : 0 ≤ a) (ha2 : a ≤ 255) (hb : 0 ≤ b) (hb2 : b ≤ 255) (hc : 0 ≤ c) (hc2 : c ≤ 255) (hd : 0 ≤ d) (hd2 : d ≤ 255) :
    bits .or .u32 (bits .or .u32 (bits .or .u32 (a * 16777216) (b * 65536)) (c * 256)) d = wordOf a b c d := by
  obtain ⟨a, rfl⟩ := Int.eq_ofNat_of_zero_le ha
  obtain ⟨b, rfl⟩ := Int.eq_ofNat_of_zero_le hb
  obtain ⟨c, rfl⟩ := Int.eq_ofNat_of_zero_le hc
  obtain ⟨d, rfl⟩ := Int.eq_ofNat_of_zero_le hd
  have e1 : (a : Int) * 16777216 = ((a * 16777216 : Nat) : Int) := by omega
  have e2 : (b : Int) * 65536 = ((b * 65536 : Nat) : Int) := by omega
  have e3 : (c : Int) * 256 = ((c * 256 : Nat) : Int) := by omega
  have j1 := nat_join 24 (a * 16777216) (b * 65536) (by omega) (by omega)
  have j2 := nat_join 16 (a * 16777216 + b * 65536) (c * 256) (by omega) (by omega)
  have j3 := nat_join 8 (a * 16777216 + b * 65536 + c * 256) d (by omega) (by omega)
  rw [e1, e2, e3, u32_or_nat _ _ (by omega) (by omega), j1, u32_or_nat _ _ (by omega) (by omega), j2, u32_or_nat _ _ (by omega) (by omega), j3]
  unfold wordOf
  omega
def Words32 (l : List Int) : Prop := ∀ z ∈ l, 0 ≤ z ∧ z ≤ 4294967295
theorem word_at {l : List Int} (h : Words32 l) (i : Nat) : 0 ≤ l.getD i 0 ∧ l.getD i 0 ≤ 4294967295 := by
  by_cases hi : i < l.length
  · have := h l[i] (List.getElem_mem hi)
    simpa [List.getD, hi] using this
  · simp [List.getD, List.getElem?_eq_none (by omega : l.length ≤ i)]
theorem wordAt_bd {bs : List Int} (h : Bytes8 bs) (i : Nat) : 0 ≤ wordAt bs i ∧ wordAt bs i ≤ 4294967295 := by
  have h0 := byte_at h (4 * i)
  have h1 := byte_at h (4 * i + 1)
  have h2 := byte_at h (4 * i + 2)
  have h3 := byte_at h (4 * i + 3)
  unfold wordAt wordOf
  omega
theorem first16_bd {bs : List Int} (h : Bytes8 bs) (k : Nat) : Words32 (first16 bs k) := by
  intro z hz
  simp only [first16, List.mem_map] at hz
  obtain ⟨i, _, rfl⟩ := hz
  exact wordAt_bd h i
theorem extW_bd {l : List Int} (h : Words32 l) : ∀ k, Words32 (extW l k)
  | 0 => h
  | k + 1 => by
    intro z hz
    simp only [extW, List.mem_append, List.mem_singleton] at hz
    rcases hz with hz | rfl
    · exact extW_bd h k z hz
    · unfold nextW; omega
theorem sched_bd {bs : List Int} (h : Bytes8 bs) : Words32 (sched bs) := extW_bd (first16_bd h 16) 48
theorem sp3_bd (x i j s : Int) : 0 ≤ sp3 x i j s ∧ sp3 x i j s ≤ 4294967295 := bits_bd _ _ _
theorem wrap_sum (a b c d : Int) : IntKind.u32.wrap (IntKind.u32.wrap (IntKind.u32.wrap (a + b) + c) + d) = (a + b + c + d) % 4294967296 := by
  simp only [IntKind.wrap_u32']
  omega
theorem mod_sum (a b c d : Int) : (((a + b) % 4294967296 + c) % 4294967296 + d) % 4294967296 = (a + b + c + d) % 4294967296 := by
  omega
theorem set_at (l : List Int) (n : Nat) (z : Int) : (l ++ List.replicate (n + 1) (0 : Int)).set l.length z = (l ++ [z]) ++ List.replicate n 0 := by
  rw [List.set_append_right _ _ (Nat.le_refl _), Nat.sub_self, List.replicate_succ, List.set_cons_zero, List.append_assoc]
  rfl
theorem getD_app (l r : List Int) (i : Nat) (h : i < l.length) : (l ++ r).getD i 0 = l.getD i 0 := by
  simp [List.getD, List.getElem?_append_left h]
end Go.Proofs.YtcplfpnaepdddaaDoor

/- Plain facts on a step: 64 rounds and a sum; the tables as lists. No program is named here. -/
namespace Go.Proofs.YtcplfpnaepdddaaDoor
set_option linter.unusedVariables false

/-- The 64 constants. -/
def kTab : List Int := [1116352408, 1899447441, 3049323471, 3921009573, 961987163, 1508970993, 2453635748, 2870763221, 3624381080, 310598401, 607225278, 1426881987, 1925078388, 2162078206, 2614888103, 3248222580, 3835390401, 4022224774, 264347078, 604807628, 770255983, 1249150122, 1555081692, 1996064986, 2554220882, 2821834349, 2952996808, 3210313671, 3336571891, 3584528711, 113926993, 338241895, 666307205, 773529912, 1294757372, 1396182291, 1695183700, 1986661051, 2177026350, 2456956037, 2730485921, 2820302411, 3259730800, 3345764771, 3516065817, 3600352804, 4094571909, 275423344, 430227734, 506948616, 659060556, 883997877, 958139571, 1322822218, 1537002063, 1747873779, 1955562222, 2024104815, 2227730452, 2361852424, 2428436474, 2756734187, 3204031479, 3329325298]
/-- The eight words at first. -/
def hTab : List Int := [1779033703, 3144134277, 1013904242, 2773480762, 1359893119, 2600822924, 528734635, 1541459225]
theorem kTab_length : kTab.length = 64 := rfl
theorem kTab_bd : Words32 kTab := by
  have h : ∀ z ∈ kTab, decide (0 ≤ z ∧ z ≤ 4294967295) = true := by decide +kernel
  exact fun z hz => of_decide_eq_true (h z hz)
theorem hTab_bd : Words32 hTab := by
  have h : ∀ z ∈ hTab, decide (0 ≤ z ∧ z ≤ 4294967295) = true := by decide +kernel
  exact fun z hz => of_decide_eq_true (h z hz)

def rnd (s : List Int) (k v : Int) : List Int :=
  match s with
  | [a, b, c, d, e, f, g, h] => [(lowS e f g h k v + upS a b c) % 4294967296, a, b, c, (d + lowS e f g h k v) % 4294967296, e, f, g]
  | _ => s
/-- The words behind the first n rounds. -/
def rnds (ws s : List Int) : Nat → List Int
  | 0 => s
  | n + 1 => rnd (rnds ws s n) (kTab.getD n 0) (ws.getD n 0)
def addW (x s : List Int) : List Int := List.zipWith (fun a b => (a + b) % 4294967296) x s
/-- A block's step. -/
def stepL (s bs : List Int) : List Int := addW (rnds (sched bs) s 64) s
/-- All the blocks' steps: n blocks. -/
def stepsL (s bs : List Int) : Nat → List Int
  | 0 => s
  | n + 1 => stepL (stepsL s bs n) ((bs.drop (64 * n)).take 64)
def be4 (x : Int) : List Int := [x / 16777216 % 256, x / 65536 % 256, x / 256 % 256, x % 256]
def bytesL (s : List Int) : List Int := s.flatMap be4
/-- The digest of bytes. -/
def sumL (bs : List Int) : List Int := bytesL (stepsL hTab (bs ++ tailL bs.length) ((bs.length + nils bs.length + 9) / 64))

theorem rnd_length {s : List Int} (h : s.length = 8) (k v : Int) : (rnd s k v).length = 8 := by
  match s, h with
  | [a, b, c, d, e, f, g, z], _ => rfl
theorem rnd_bd {s : List Int} (h : s.length = 8) (hs : Words32 s) (k v : Int) : Words32 (rnd s k v) := by
  match s, h with
  | [a, b, c, d, e, f, g, z], _ =>
    intro y hy
    simp only [rnd, List.mem_cons, List.not_mem_nil, or_false] at hy
    rcases hy with rfl | rfl | rfl | rfl | rfl | rfl | rfl | rfl
    · omega
    · exact hs _ (by simp)
    · exact hs _ (by simp)
    · exact hs _ (by simp)
    · omega
    · exact hs _ (by simp)
    · exact hs _ (by simp)
    · exact hs _ (by simp)
theorem rnds_length {ws s : List Int} (h : s.length = 8) : ∀ n, (rnds ws s n).length = 8
  | 0 => h
  | n + 1 => rnd_length (rnds_length h n) _ _
theorem rnds_bd {ws s : List Int} (h : s.length = 8) (hs : Words32 s) : ∀ n, Words32 (rnds ws s n)
  | 0 => hs
  | n + 1 => rnd_bd (rnds_length h n) (rnds_bd h hs n) _ _
theorem addW_length {x s : List Int} (hx : x.length = 8) (h : s.length = 8) : (addW x s).length = 8 := by simp [addW, hx, h]
theorem addW_bd (x s : List Int) : Words32 (addW x s) := by
  intro y hy
  unfold addW at hy
  obtain ⟨i, hi, rfl⟩ := List.getElem_of_mem hy
  rw [List.getElem_zipWith]
  omega
theorem stepL_length {s : List Int} (h : s.length = 8) (bs : List Int) : (stepL s bs).length = 8 := addW_length (rnds_length h 64) h
theorem stepL_bd (s bs : List Int) : Words32 (stepL s bs) := addW_bd _ _
theorem stepsL_length {s : List Int} (h : s.length = 8) (bs : List Int) : ∀ n, (stepsL s bs n).length = 8
  | 0 => h
  | n + 1 => stepL_length (stepsL_length h bs n) _
theorem stepsL_bd {s : List Int} (hs : Words32 s) (bs : List Int) : ∀ n, Words32 (stepsL s bs n)
  | 0 => hs
  | n + 1 => stepL_bd _ _
theorem list_8 {α : Type} : ∀ (l : List α), l.length = 8 → ∃ a b c d e f g h : α, l = [a, b, c, d, e, f, g, h]
  | [a, b, c, d, e, f, g, h], _ => ⟨a, b, c, d, e, f, g, h, rfl⟩
/-- x, to the first n words of which those of s are added. -/
def addN (x s : List Int) : Nat → List Int
  | 0 => x
  | n + 1 => (addN x s n).set n ((x.getD n 0 + s.getD n 0) % 4294967296)
theorem addN_length (x s : List Int) : ∀ n, (addN x s n).length = x.length
  | 0 => rfl
  | n + 1 => by simp [addN, addN_length x s n]
theorem addN_get (x s : List Int) (m : Nat) : ∀ n, n ≤ m → (addN x s n).getD m 0 = x.getD m 0
  | 0, _ => rfl
  | n + 1, h => by
    have ih := addN_get x s m n (by omega)
    simp only [List.getD] at ih ⊢
    simp only [addN]
    rw [List.getElem?_set_ne (by omega)]
    exact ih
theorem addN_all {x s : List Int} (hx : x.length = 8) (hs : s.length = 8) : addN x s 8 = addW x s := by
  obtain ⟨a, b, c, d, e, f, g, z, rfl⟩ := list_8 x hx
  obtain ⟨a', b', c', d', e', f', g', z', rfl⟩ := list_8 s hs
  simp [addN, addW]
/-- The words as the model holds an array of them. -/
def stV (s : List Int) : Value := .agg (s.map (Value.int .u32)).toArray
end Go.Proofs.YtcplfpnaepdddaaDoor

/- Plain facts on steps one behind the other. No program is named here. -/
namespace Go.Proofs.YtcplfpnaepdddaaDoor
set_option linter.unusedVariables false

theorem stepsL_head (s x y : List Int) : ∀ k, 64 * k ≤ x.length → stepsL s (x ++ y) k = stepsL s x k
  | 0, _ => rfl
  | k + 1, h => by
    simp only [stepsL]
    rw [stepsL_head s x y k (by omega)]
    congr 1
    rw [List.drop_append_of_le_length (by omega), List.take_append_of_le_length (by simp; omega)]
theorem stepsL_append (s x y : List Int) (m : Nat) (h : x.length = 64 * m) : ∀ q, stepsL s (x ++ y) (m + q) = stepsL (stepsL s x m) y q
  | 0 => stepsL_head s x y m (by omega)
  | q + 1 => by
    show stepL (stepsL s (x ++ y) (m + q)) (((x ++ y).drop (64 * (m + q))).take 64) = stepL (stepsL (stepsL s x m) y q) ((y.drop (64 * q)).take 64)
    rw [stepsL_append s x y m h q]
    congr 2
    rw [List.drop_append, List.drop_eq_nil_of_le (by omega), List.nil_append, h]
    congr 1
    omega
theorem whole_blocks (n m r : Nat) (hr : r < 64) (h : n = 64 * m + r) : ∃ q, 1 ≤ q ∧ q ≤ 2 ∧ r + (nils n + 9) = 64 * q ∧ (n + nils n + 9) / 64 = m + q := by
  subst h
  unfold nils
  by_cases h : r ≤ 55
  · refine ⟨1, by omega, by omega, ?_, ?_⟩ <;> omega
  · refine ⟨2, by omega, by omega, ?_, ?_⟩ <;> omega
theorem sumL_parts (bs : List Int) (m q r : Nat) (hr : r < 64) (h : bs.length = 64 * m + r) (hq : (bs.length + nils bs.length + 9) / 64 = m + q) :
    sumL bs = bytesL (stepsL (stepsL hTab (bs.take (64 * m)) m) (bs.drop (64 * m) ++ tailL bs.length) q) := by
  unfold sumL
  rw [hq, ← stepsL_append hTab (bs.take (64 * m)) (bs.drop (64 * m) ++ tailL bs.length) m (by simp; omega) q, ← List.append_assoc, List.take_append_drop]
theorem be8_bytes (x : Int) : Bytes8 (be8 x) := by
  intro z hz
  simp only [be8, List.mem_cons, List.not_mem_nil, or_false] at hz
  omega
theorem tailL_bytes (n : Nat) : Bytes8 (tailL n) := by
  intro z hz
  simp only [tailL, List.mem_cons, List.mem_append] at hz
  rcases hz with rfl | hz | hz
  · omega
  · rw [List.mem_replicate] at hz; omega
  · exact be8_bytes _ z hz
theorem bytesL_bytes (s : List Int) : Bytes8 (bytesL s) := by
  intro z hz
  simp only [bytesL, List.mem_flatMap] at hz
  obtain ⟨x, _, hx⟩ := hz
  simp only [be4, List.mem_cons, List.not_mem_nil, or_false] at hx
  omega
theorem app_bytes {x y : List Int} (hx : Bytes8 x) (hy : Bytes8 y) : Bytes8 (x ++ y) := by
  intro z hz
  rcases List.mem_append.1 hz with h | h
  · exact hx z h
  · exact hy z h
end Go.Proofs.YtcplfpnaepdddaaDoor

/- Plain functions after the document's reckoning of roots by digits of 16 bits. No program is named here. -/
namespace Go.Proofs.YtcplfpnaepdddaaDoor
set_option linter.unusedVariables false

def mulCol (out : List Int) (x : Int) (b : List Int) (i : Nat) : Nat → List Int
  | 0 => out
  | k + 1 => (mulCol out x b i k).set (i + k) (((mulCol out x b i k).getD (i + k) 0 + x * b.getD k 0) % 18446744073709551616)
def mulRow (a b : List Int) : Nat → List Int
  | 0 => List.replicate (a.length + b.length + 1) 0
  | i + 1 => mulCol (mulRow a b i) (a.getD i 0) b i b.length
def carry (o : List Int) : Nat → List Int
  | 0 => o
  | i + 1 => ((carry o i).set (i + 1) (((carry o i).getD (i + 1) 0 + (carry o i).getD i 0 / 65536) % 18446744073709551616)).set i ((carry o i).getD i 0 % 65536)
def timesL (a b : List Int) : List Int := carry (mulRow a b a.length) (a.length + b.length)
/-- From the place n - 1 down: is z below limit, or the same? -/
def cmpL (z limit : List Int) : Nat → Bool
  | 0 => true
  | n + 1 => if z.getD n 0 != limit.getD n 0 then decide (z.getD n 0 < limit.getD n 0) else cmpL z limit n
def digs (y : Int) : List Int := [y % 65536, y / 65536 % 65536, y / 4294967296]
def belowL (y p : Int) (cube : Bool) : Bool :=
  match cube with
  | true => cmpL (timesL (timesL (digs y) (digs y)) (digs y)) ((List.replicate 11 0).set 6 p) 11
  | false => cmpL (timesL (digs y) (digs y)) ((List.replicate 7 0).set 4 p) 7
/-- The search, n bits done: 36 bits, the greatest first. -/
def rootAt (p : Int) (cube : Bool) : Nat → Int
  | 0 => 0
  | n + 1 => if belowL (rootAt p cube n + 2 ^ (35 - n)) p cube then rootAt p cube n + 2 ^ (35 - n) else rootAt p cube n
def rootL (p : Int) (cube : Bool) : Int := rootAt p cube 36 % 4294967296
end Go.Proofs.YtcplfpnaepdddaaDoor
