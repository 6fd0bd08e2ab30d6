/- Plain facts on a number's bytes: written, and read again. No program is named here. -/
import Derived.Test.YtcplfpnaepdddaaDoorLib
namespace Go.Proofs.YtcplfpnaepdddaaDoor
set_option linter.unusedVariables false

/-- How many bytes a number has. -/
def nd (v : Nat) : Nat := if h : v = 0 then 0 else nd (v / 256) + 1
termination_by v
decreasing_by omega
/-- The k lowest bytes of a number, the highest first. -/
def be : Nat → Nat → List Int
  | 0, _ => []
  | k + 1, v => ((v / 256 ^ k % 256 : Nat) : Int) :: be k v
/-- A number's bytes, by the document. -/
def numL (v : Nat) : List Int := if v < 248 then [(v : Int)] else ((247 + nd v : Nat) : Int) :: be (nd v) v
/-- The number that bytes tell. -/
def val (l : List Int) : Nat := l.foldl (fun a x => 256 * a + x.toNat) 0
/-- Bytes with their length in front, by the document. -/
def bytL (bs : List Int) : List Int := numL bs.length ++ bs

theorem nd_zero : nd 0 = 0 := by unfold nd; simp
theorem nd_pos {v : Nat} (h : 0 < v) : nd v = nd (v / 256) + 1 := by
  rw [nd, dif_neg (by omega)]
theorem nd_lt (v : Nat) : v < 256 ^ nd v := by
  induction v using Nat.strongRecOn with
  | ind v ih =>
    by_cases h : v = 0
    · subst h; simp [nd_zero]
    · rw [nd_pos (by omega), Nat.pow_succ]
      have := ih (v / 256) (by omega)
      omega
theorem nd_ge {v : Nat} (h : 0 < v) : 256 ^ (nd v - 1) ≤ v := by
  induction v using Nat.strongRecOn with
  | ind v ih =>
    rw [nd_pos h]
    by_cases h1 : v / 256 = 0
    · rw [h1, nd_zero]; simp; omega
    · have h2 := ih (v / 256) (by omega) (by omega)
      have h3 : nd (v / 256) = nd (v / 256) - 1 + 1 := by rw [nd_pos (by omega)]; rfl
      rw [Nat.add_sub_cancel, h3, Nat.pow_succ]
      omega
theorem nd_le {v k : Nat} (h : v < 256 ^ k) : nd v ≤ k := by
  rcases Nat.eq_zero_or_pos v with rfl | hp
  · simp [nd_zero]
  · have h2 := nd_ge hp
    rcases Nat.lt_or_ge k (nd v) with h3 | h3
    · have h4 : 256 ^ k ≤ 256 ^ (nd v - 1) := Nat.pow_le_pow_right (by omega) (by omega)
      omega
    · exact h3
/-- What a loop that divides finds: it ends at the number of bytes. -/
theorem nd_unique {v k : Nat} (h : v / 256 ^ k = 0) (h2 : k = 0 ∨ v / 256 ^ (k - 1) ≠ 0) : k = nd v := by
  have hp : 0 < 256 ^ k := Nat.pow_pos (by omega)
  have h3 : v < 256 ^ k := by
    rcases Nat.lt_or_ge v (256 ^ k) with h4 | h4
    · exact h4
    · have := Nat.div_pos h4 hp; omega
  have h5 := nd_le h3
  rcases h2 with rfl | h2
  · omega
  · rcases Nat.lt_or_ge (nd v) k with h6 | h6
    · exfalso
      apply h2
      apply Nat.div_eq_of_lt
      exact Nat.lt_of_lt_of_le (nd_lt v) (Nat.pow_le_pow_right (by omega) (by omega))
    · omega
theorem nd_64 {v : Nat} (h : v < 18446744073709551616) : nd v ≤ 8 := nd_le (by simpa using h)
theorem nd_one {v : Nat} (h : 0 < v) : 1 ≤ nd v := by rw [nd_pos h]; omega
theorem div_step (v k : Nat) : v / 256 ^ k / 256 = v / 256 ^ (k + 1) := by rw [Nat.div_div_eq_div_mul, Nat.pow_succ]

theorem be_length : ∀ k v, (be k v).length = k
  | 0, _ => rfl
  | k + 1, v => by simp [be, be_length k v]
theorem be_bytes : ∀ k v, Bytes8 (be k v)
  | 0, _ => fun z hz => by cases hz
  | k + 1, v => fun z hz => by
    rcases List.mem_cons.1 hz with rfl | hz
    · omega
    · exact be_bytes k v z hz
theorem be_at : ∀ k v i, i < k → (be k v).getD i 0 = ((v / 256 ^ (k - 1 - i) % 256 : Nat) : Int)
  | 0, _, i, h => by omega
  | k + 1, v, 0, _ => by simp [be]
  | k + 1, v, i + 1, h => by
    have := be_at k v i (by omega)
    simp only [be, List.getD, List.getElem?_cons_succ] at this ⊢
    rw [this, show k + 1 - 1 - (i + 1) = k - 1 - i by omega]
theorem numL_bytes {v : Nat} (h : v < 18446744073709551616) : Bytes8 (numL v) := by
  unfold numL
  split
  · intro z hz
    simp only [List.mem_cons, List.not_mem_nil, or_false] at hz
    omega
  · intro z hz
    rcases List.mem_cons.1 hz with rfl | hz
    · have := nd_64 h; omega
    · exact be_bytes _ _ z hz
theorem numL_length (v : Nat) : (numL v).length = if v < 248 then 1 else nd v + 1 := by
  unfold numL
  split <;> simp [be_length]
theorem numL_pos (v : Nat) : 0 < (numL v).length := by rw [numL_length]; split <;> omega
theorem numL_le {v : Nat} (h : v < 18446744073709551616) : (numL v).length ≤ 9 := by
  have := nd_64 h
  rw [numL_length]; split <;> omega
theorem bytL_bytes {bs : List Int} (h : Bytes8 bs) (hl : bs.length < 18446744073709551616) : Bytes8 (bytL bs) := by
  intro z hz
  rcases List.mem_append.1 hz with hz | hz
  · exact numL_bytes hl z hz
  · exact h z hz

theorem val_nil : val [] = 0 := rfl
theorem val_snoc (l : List Int) (x : Int) : val (l ++ [x]) = 256 * val l + x.toNat := by simp [val, List.foldl_append]
theorem val_foldl (l : List Int) : ∀ a, l.foldl (fun a x => 256 * a + x.toNat) a = 256 ^ l.length * a + val l := by
  induction l with
  | nil => intro a; simp [val]
  | cons x r ih =>
    intro a
    simp only [List.foldl_cons, List.length_cons, val]
    rw [ih, ih (256 * 0 + x.toNat), Nat.pow_succ]
    simp only [Nat.mul_zero, Nat.zero_add, Nat.mul_add]
    rw [show 256 ^ r.length * (256 * a) = 256 ^ r.length * 256 * a by rw [Nat.mul_assoc]]
    omega
theorem val_cons (x : Int) (l : List Int) : val (x :: l) = 256 ^ l.length * x.toNat + val l := by
  have e : val (x :: l) = l.foldl (fun a x => 256 * a + x.toNat) x.toNat := by simp [val]
  rw [e, val_foldl]
theorem val_lt {l : List Int} (h : Bytes8 l) : val l < 256 ^ l.length := by
  induction l with
  | nil => simp [val]
  | cons x r ih =>
    rw [val_cons, List.length_cons, Nat.pow_succ]
    have h1 := ih (fun z hz => h z (List.mem_cons_of_mem _ hz))
    have h2 := h x (by simp)
    have h3 : 256 ^ r.length * x.toNat ≤ 256 ^ r.length * 255 := Nat.mul_le_mul_left _ (by omega)
    omega
theorem val_be : ∀ k v, val (be k v) = v % 256 ^ k
  | 0, v => by simp [be, val, Nat.mod_one]
  | k + 1, v => by
    have e : be (k + 1) v = ((v / 256 ^ k % 256 : Nat) : Int) :: be k v := rfl
    rw [e, val_cons, be_length, val_be k v, Int.toNat_natCast, Nat.pow_succ]
    have h : v % (256 ^ k * 256) = v % 256 ^ k + 256 ^ k * (v / 256 ^ k % 256) := Nat.mod_mul
    omega
/-- Bytes are those of the number that they tell. -/
theorem be_val {l : List Int} (h : Bytes8 l) : be l.length (val l) = l := by
  induction l with
  | nil => rfl
  | cons x r ih =>
    have hr : Bytes8 r := fun z hz => h z (List.mem_cons_of_mem _ hz)
    have h1 := val_lt hr
    have h2 := h x (by simp)
    have hp : 0 < 256 ^ r.length := Nat.pow_pos (by omega)
    have e1 : val (x :: r) / 256 ^ r.length % 256 = x.toNat := by
      rw [val_cons, Nat.mul_add_div hp, Nat.div_eq_of_lt h1]
      omega
    have e2 : ∀ k, k ≤ r.length → be k (val (x :: r)) = be k (val r) := by
      intro k
      induction k with
      | zero => intro _; rfl
      | succ k ihk =>
        intro hk
        have e3 : 256 ^ r.length = 256 ^ k * (256 * 256 ^ (r.length - k - 1)) := by
          rw [← Nat.mul_assoc, ← Nat.pow_succ, ← Nat.pow_add]
          congr 1; omega
        simp only [be]
        rw [ihk (by omega), val_cons, e3]
        congr 2
        rw [Nat.mul_assoc, Nat.mul_add_div (Nat.pow_pos (by omega)), Nat.mul_assoc, Nat.mul_add_mod]
    simp only [List.length_cons, be]
    rw [e1, e2 r.length (Nat.le_refl _), ih hr, Int.toNat_of_nonneg h2.1]

/-- The number at the front, and what stands behind it. -/
def getNum : List Int → Option (Nat × List Int)
  | [] => none
  | c :: r =>
    if c < 248 then some (c.toNat, r)
    else if r.length < (c - 247).toNat then none
    else if r.getD 0 0 = 0 ∨ val (r.take (c - 247).toNat) < 248 then none
    else some (val (r.take (c - 247).toNat), r.drop (c - 247).toNat)
/-- What a reader tells of a number, a byte, bytes; and what is left. No list: the flag is set. -/
def rdNum : Option (List Int) → Nat × Option (List Int)
  | none => (0, none)
  | some r => match getNum r with
    | none => (0, none)
    | some (v, r') => (v, some r')
def rdByte : Option (List Int) → Int × Option (List Int)
  | none => (0, none)
  | some [] => (0, none)
  | some (c :: r) => (c, some r)
def rdBytes (most : Int) (s : Option (List Int)) : List Int × Option (List Int) :=
  match (rdNum s).2 with
  | none => ([], none)
  | some r => if most < 0 ∨ most < ((rdNum s).1 : Int) ∨ r.length < (rdNum s).1 then ([], none) else (r.take (rdNum s).1, some (r.drop (rdNum s).1))
def rdEnd : Option (List Int) → Int
  | none => 3
  | some [] => 0
  | some _ => 4

theorem getNum_lt {l r : List Int} {v : Nat} (hb : Bytes8 l) (h : getNum l = some (v, r)) : v < 18446744073709551616 := by
  cases l with
  | nil => simp [getNum] at h
  | cons c t =>
    have hc := hb c (by simp)
    simp only [getNum] at h
    split at h
    · injection h with h; injection h with h1 h2; omega
    · split at h
      · cases h
      · split at h
        · cases h
        · injection h with h; injection h with h1 h2
          subst h1
          have h3 := val_lt (l := t.take (c - 247).toNat) (fun z hz => hb z (List.mem_cons_of_mem _ (List.mem_of_mem_take hz)))
          have h4 : 256 ^ (t.take (c - 247).toNat).length ≤ 256 ^ 8 := Nat.pow_le_pow_right (by omega) (by rw [List.length_take]; omega)
          have h5 : (256 : Nat) ^ 8 = 18446744073709551616 := by decide
          omega
/-- What was written is read as it was, whatever stands behind it. -/
theorem getNum_numL {v : Nat} (h : v < 18446744073709551616) (r : List Int) : getNum (numL v ++ r) = some (v, r) := by
  unfold numL
  split
  · rename_i h1
    have : ((v : Int) < 248) := by omega
    simp [getNum, this]
  · rename_i h1
    have hn := nd_64 h
    have hn1 := nd_one (v := v) (by omega)
    have e1 : ¬ (((247 + nd v : Nat) : Int) < 248) := by omega
    have e2 : (((247 + nd v : Nat) : Int) - 247).toNat = nd v := by omega
    have e3 : (be (nd v) v ++ r).take (nd v) = be (nd v) v := by
      rw [List.take_append_of_le_length (by rw [be_length]; omega), List.take_of_length_le (by rw [be_length]; omega)]
    have e4 : (be (nd v) v ++ r).drop (nd v) = r := by
      have := List.drop_left (l₁ := be (nd v) v) (l₂ := r)
      rw [be_length] at this
      exact this
    have e5 : val (be (nd v) v) = v := by rw [val_be, Nat.mod_eq_of_lt (nd_lt v)]
    have e6 : (be (nd v) v ++ r).getD 0 0 = ((v / 256 ^ (nd v - 1) : Nat) : Int) := by
      have h2 := be_at (nd v) v 0 (by omega)
      have h3 : v / 256 ^ (nd v - 1) < 256 := by
        apply Nat.div_lt_of_lt_mul
        rw [← Nat.pow_succ, show (nd v - 1).succ = nd v by omega]
        exact nd_lt v
      rw [Nat.sub_zero, Nat.mod_eq_of_lt h3] at h2
      rw [← h2]
      simp only [List.getD]
      rw [List.getElem?_append_left (by rw [be_length]; omega)]
    have e7 : 0 < v / 256 ^ (nd v - 1) := Nat.div_pos (nd_ge (by omega)) (Nat.pow_pos (by omega))
    simp only [List.cons_append, getNum]
    rw [if_neg e1, e2, if_neg (by rw [List.length_append, be_length]; omega), e3, e4, e5, e6, if_neg (by omega)]
theorem rdNum_numL {v : Nat} (h : v < 18446744073709551616) (r : List Int) : rdNum (some (numL v ++ r)) = (v, some r) := by
  simp [rdNum, getNum_numL h r]
theorem rdBytes_bytL {bs : List Int} (h : bs.length < 18446744073709551616) (r : List Int) (most : Int) (hm : (bs.length : Int) ≤ most) : rdBytes most (some (bytL bs ++ r)) = (bs, some r) := by
  unfold bytL rdBytes
  rw [List.append_assoc, rdNum_numL h]
  simp
  omega
end Go.Proofs.YtcplfpnaepdddaaDoor
