/- Plain facts on a step: 64 rounds and a sum; the tables as lists. No program is named here. -/
import Derived.Test.YtcplfpnaepdddaaDoorWordMath
import Derived.Test.YtcplfpnaepdddaaDoorTailMath
namespace Go.Proofs.YtcplfpnaepdddaaDoor
set_option linter.unusedVariables false

/-- The 64 constants. -/
def kTab : List Int := [1116352408, 1899447441, 3049323471, 3921009573, 961987163, 1508970993, 2453635748, 2870763221, 3624381080, 310598401, 607225278, 1426881987, 1925078388, 2162078206, 2614888103, 3248222580, 3835390401, 4022224774, 264347078, 604807628, 770255983, 1249150122, 1555081692, 1996064986, 2554220882, 2821834349, 2952996808, 3210313671, 3336571891, 3584528711, 113926993, 338241895, 666307205, 773529912, 1294757372, 1396182291, 1695183700, 1986661051, 2177026350, 2456956037, 2730485921, 2820302411, 3259730800, 3345764771, 3516065817, 3600352804, 4094571909, 275423344, 430227734, 506948616, 659060556, 883997877, 958139571, 1322822218, 1537002063, 1747873779, 1955562222, 2024104815, 2227730452, 2361852424, 2428436474, 2756734187, 3204031479, 3329325298]
/-- The eight words at first. -/
def hTab : List Int := [1779033703, 3144134277, 1013904242, 2773480762, 1359893119, 2600822924, 528734635, 1541459225]
theorem kTab_length : kTab.length = 64 := rfl
theorem kTab_bd : Words32 kTab := by
  have h : ∀ z ∈ kTab, decide (0 ≤ z ∧ z ≤ 4294967295) = true := by decide +kernel
  exact fun z hz => of_decide_eq_true (h z hz)
theorem hTab_bd : Words32 hTab := by
  have h : ∀ z ∈ hTab, decide (0 ≤ z ∧ z ≤ 4294967295) = true := by decide +kernel
  exact fun z hz => of_decide_eq_true (h z hz)

def rnd (s : List Int) (k v : Int) : List Int :=
  match s with
  | [a, b, c, d, e, f, g, h] => [(lowS e f g h k v + upS a b c) % 4294967296, a, b, c, (d + lowS e f g h k v) % 4294967296, e, f, g]
  | _ => s
/-- The words behind the first n rounds. -/
def rnds (ws s : List Int) : Nat → List Int
  | 0 => s
  | n + 1 => rnd (rnds ws s n) (kTab.getD n 0) (ws.getD n 0)
def addW (x s : List Int) : List Int := List.zipWith (fun a b => (a + b) % 4294967296) x s
/-- A block's step. -/
def stepL (s bs : List Int) : List Int := addW (rnds (sched bs) s 64) s
/-- All the blocks' steps: n blocks. -/
def stepsL (s bs : List Int) : Nat → List Int
  | 0 => s
  | n + 1 => stepL (stepsL s bs n) ((bs.drop (64 * n)).take 64)
def be4 (x : Int) : List Int := [x / 16777216 % 256, x / 65536 % 256, x / 256 % 256, x % 256]
def bytesL (s : List Int) : List Int := s.flatMap be4
/-- The digest of bytes. -/
def sumL (bs : List Int) : List Int := bytesL (stepsL hTab (bs ++ tailL bs.length) ((bs.length + nils bs.length + 9) / 64))

theorem rnd_length {s : List Int} (h : s.length = 8) (k v : Int) : (rnd s k v).length = 8 := by
  match s, h with
  | [a, b, c, d, e, f, g, z], _ => rfl
theorem rnd_bd {s : List Int} (h : s.length = 8) (hs : Words32 s) (k v : Int) : Words32 (rnd s k v) := by
  match s, h with
  | [a, b, c, d, e, f, g, z], _ =>
    intro y hy
    simp only [rnd, List.mem_cons, List.not_mem_nil, or_false] at hy
    rcases hy with rfl | rfl | rfl | rfl | rfl | rfl | rfl | rfl
    · omega
    · exact hs _ (by simp)
    · exact hs _ (by simp)
    · exact hs _ (by simp)
    · omega
    · exact hs _ (by simp)
    · exact hs _ (by simp)
    · exact hs _ (by simp)
theorem rnds_length {ws s : List Int} (h : s.length = 8) : ∀ n, (rnds ws s n).length = 8
  | 0 => h
  | n + 1 => rnd_length (rnds_length h n) _ _
theorem rnds_bd {ws s : List Int} (h : s.length = 8) (hs : Words32 s) : ∀ n, Words32 (rnds ws s n)
  | 0 => hs
  | n + 1 => rnd_bd (rnds_length h n) (rnds_bd h hs n) _ _
theorem addW_length {x s : List Int} (hx : x.length = 8) (h : s.length = 8) : (addW x s).length = 8 := by simp [addW, hx, h]
theorem addW_bd (x s : List Int) : Words32 (addW x s) := by
  intro y hy
  unfold addW at hy
  obtain ⟨i, hi, rfl⟩ := List.getElem_of_mem hy
  rw [List.getElem_zipWith]
  omega
theorem stepL_length {s : List Int} (h : s.length = 8) (bs : List Int) : (stepL s bs).length = 8 := addW_length (rnds_length h 64) h
theorem stepL_bd (s bs : List Int) : Words32 (stepL s bs) := addW_bd _ _
theorem stepsL_length {s : List Int} (h : s.length = 8) (bs : List Int) : ∀ n, (stepsL s bs n).length = 8
  | 0 => h
  | n + 1 => stepL_length (stepsL_length h bs n) _
theorem stepsL_bd {s : List Int} (hs : Words32 s) (bs : List Int) : ∀ n, Words32 (stepsL s bs n)
  | 0 => hs
  | n + 1 => stepL_bd _ _
theorem list_8 {α : Type} : ∀ (l : List α), l.length = 8 → ∃ a b c d e f g h : α, l = [a, b, c, d, e, f, g, h]
  | [a, b, c, d, e, f, g, h], _ => ⟨a, b, c, d, e, f, g, h, rfl⟩
/-- x, to the first n words of which those of s are added. -/
def addN (x s : List Int) : Nat → List Int
  | 0 => x
  | n + 1 => (addN x s n).set n ((x.getD n 0 + s.getD n 0) % 4294967296)
theorem addN_length (x s : List Int) : ∀ n, (addN x s n).length = x.length
  | 0 => rfl
  | n + 1 => by simp [addN, addN_length x s n]
theorem addN_get (x s : List Int) (m : Nat) : ∀ n, n ≤ m → (addN x s n).getD m 0 = x.getD m 0
  | 0, _ => rfl
  | n + 1, h => by
    have ih := addN_get x s m n (by omega)
    simp only [List.getD] at ih ⊢
    simp only [addN]
    rw [List.getElem?_set_ne (by omega)]
    exact ih
theorem addN_all {x s : List Int} (hx : x.length = 8) (hs : s.length = 8) : addN x s 8 = addW x s := by
  obtain ⟨a, b, c, d, e, f, g, z, rfl⟩ := list_8 x hx
  obtain ⟨a', b', c', d', e', f', g', z', rfl⟩ := list_8 s hs
  simp [addN, addW]
/-- The words as the model holds an array of them. -/
def stV (s : List Int) : Value := .agg (s.map (Value.int .u32)).toArray
end Go.Proofs.YtcplfpnaepdddaaDoor
