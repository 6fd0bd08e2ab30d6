/- The contracts of the program's reader: fail, Byte, Number, End. -/
import Derived.Test.YtnjjihikjcfliaaPrNum
import Derived.Test.YtnjjihikjcfliaaRefRb
import Derived.Test.YtnjjihikjcfliaaCode
namespace Go.Proofs.Ytnjjihikjcfliaa
open Go.RowKit
set_option linter.unusedVariables false

/-- The program's reader, as it lies at block g. -/
def PD (w : World) (g : Nat) (a : Option Addr) (n cap : Nat) (bad : Bool) : Prop :=
  w.heap[g]? = some (.cells #[.slice a n cap, .bool bad] 52 (0, 0))
section
variable {w w' : World} {g : Nat} {a : Option Addr} {n cap : Nat} {bad : Bool}
theorem PD.lt (h : PD w g a n cap bad) : g < w.heap.size := by
  rcases Nat.lt_or_ge g w.heap.size with hlt | hge
  · exact hlt
  · unfold PD at h; rw [Array.getElem?_eq_none hge] at h; cases h
theorem PD.cell0 (h : PD w g a n cap bad) : w.cell? ⟨g, 0, none⟩ = some (.slice a n cap) := by
  have := cell_of_row w g 0 _ _ _ h; rw [this]; rfl
theorem PD.cell1 (h : PD w g a n cap bad) : w.cell? ⟨g, 1, none⟩ = some (.bool bad) := by
  have := cell_of_row w g 1 _ _ _ h; rw [this]; rfl
theorem PD.frozen (h : PD w g a n cap bad) (i : Nat) : w.frozen? ⟨g, i, none⟩ = false := by
  unfold PD at h
  simp [World.frozen?, h]
theorem PD.set0 (h : PD w g a n cap bad) (a' : Option Addr) (n' cap' : Nat) : PD (w.setCell ⟨g, 0, none⟩ (.slice a' n' cap')) g a' n' cap' bad := by
  unfold PD at h ⊢
  simp [World.setCell, Array.getElem?_modify, h]
theorem PD.set1 (h : PD w g a n cap bad) (b : Bool) : PD (w.setCell ⟨g, 1, none⟩ (.bool b)) g a n cap b := by
  unfold PD at h ⊢
  simp [World.setCell, Array.getElem?_modify, h]
theorem PD.drewN (h : PD w g a n cap bad) (k : Nat) : PD (w.drewN k) g a n cap bad := h
theorem PD.grown {row : Option Nat} (h : PD w g a n cap bad) (hg : w.grownBy w' row) (hne : some g ≠ row) : PD w' g a n cap bad := (hg.block g h.lt hne).trans h
end

/-- The program's reader lies at block g, its bytes, if it has any, at block gb; s: what is left, or that its flag is set. -/
def PR (w : World) (g : Nat) (gb : Option Nat) (s : Option (List Int)) : Prop :=
  ∃ (a : Option Addr) (n cap : Nat) (bad : Bool), PD w g a n cap bad ∧ (∀ ad, a = some ad → gb = some ad.block) ∧ gb ≠ some g ∧ (s = none → bad = true ∧ a = none ∧ n = 0 ∧ cap = 0) ∧ (∀ r, s = some r → bad = false ∧ InBytes w a n cap r ∧ n ≤ 140737488355328)
theorem PR.lt {w : World} {g : Nat} {gb : Option Nat} {s : Option (List Int)} (h : PR w g gb s) : g < w.heap.size := by
  obtain ⟨a, n, cap, bad, h, _⟩ := h
  exact h.lt
theorem PR.grown {w w' : World} {g : Nat} {gb : Option Nat} {s : Option (List Int)} {row : Option Nat} (h : PR w g gb s) (hg : w.grownBy w' row) (hne : some g ≠ row) (hnb : ∀ b, gb = some b → some b ≠ row) : PR w' g gb s := by
  obtain ⟨a, n, cap, bad, h, h1, h2, h3, h4⟩ := h
  exact ⟨a, n, cap, bad, h.grown hg hne, h1, h2, h3, fun r hr => ⟨(h4 r hr).1, (h4 r hr).2.1.grown hg (fun ad e => hnb _ (h1 ad e)), (h4 r hr).2.2⟩⟩
def NewPost (w : World) (bs : List Int) (e : Ending) (w' : World) : Prop :=
  ∃ g gb, e = .returned (.pointer (some ⟨g, 0, none⟩)) ∧ w.heap.size ≤ g ∧ (∀ b, gb = some b → w.heap.size ≤ b ∧ b < w'.heap.size) ∧ PR w' g gb (some bs) ∧ Below w.heap.size w w'
def PRPost (w : World) (g : Nat) (gb : Option Nat) (v : Value) (s : Option (List Int)) (e : Ending) (w' : World) : Prop :=
  e = .returned v ∧ PR w' g gb s ∧ w.grownBy w' (some g)
def PRBytesPost (w : World) (g : Nat) (gb : Option Nat) (l : List Int) (s : Option (List Int)) (e : Ending) (w' : World) : Prop :=
  ∃ a2 c2, e = .returned (.slice a2 l.length c2) ∧ InBytes w' a2 l.length c2 l ∧ PR w' g gb s ∧ w.grownBy w' (some g) ∧ (∀ ad, a2 = some ad → w.heap.size ≤ ad.block)

theorem PR.move {w : World} {g ga off n cap : Nat} {gb : Option Nat} {l : List Int} (hd : PD w g (some ⟨ga, off, none⟩) n cap false) (hgb : gb = some ga) (hne : gb ≠ some g) (hin : InBytes w (some ⟨ga, off, none⟩) n cap l) (j : Nat) (hj : j ≤ n) (hmx : n ≤ 140737488355328) :
    PR (w.setCell ⟨g, 0, none⟩ (.slice (if cap = j then some ⟨ga, off, none⟩ else some ⟨ga, off + j, none⟩) (n - j) (cap - j))) g gb (some (l.drop j)) := by
  have hb := hin.behind j hj
  have e : (Option.map (fun x : Addr => x.add j) (some ⟨ga, off, none⟩)) = some ⟨ga, off + j, none⟩ := by simp [Addr.add]
  rw [e] at hb
  refine ⟨_, _, _, false, hd.set0 _ _ _, fun ad h => ?_, hne, (fun h => by cases h), fun r h => ⟨rfl, ?_, by omega⟩⟩
  · rw [hgb]
    split at h
    all_goals (injection h with h; rw [← h])
  · injection h with h
    rw [← h]
    refine hb.grown (only_set (only_refl w (some g)) 0 _) (fun ad h => ?_)
    have : ad.block = ga := by
      split at h
      all_goals (injection h with h; rw [← h])
    rw [this, ← hgb]
    exact hne
set_option maxRecDepth 100000 in
set_option maxHeartbeats 2000000 in
theorem fail_any (g : Nat) (a : Option Addr) (n cap : Nat) (bad : Bool) (w : World) (hd : PD w g a n cap bad) :
    Calls Try.prog 26 #[.pointer (some ⟨g, 0, none⟩)] w (fun e w' => e = .returned (.tuple #[]) ∧ PD w' g none 0 0 true ∧ w.grownBy w' (some g)) := by
  have c0 := hd.cell0
  have c1 := hd.cell1
  have f0 := hd.frozen 0
  have f1 := hd.frozen 1
  have HD := Lib.hid hd
  clear hd
  go_enter Try.func26, Try.ntmps26
  go_wp2_with fail
  refine bodyPost_end (results_none rfl _ _ _) rfl ?_
  exact ⟨rfl, (HD.out.set0 none 0 0).set1 true, only_set (only_set (only_refl w _) 0 _) 1 _⟩

set_option maxRecDepth 100000 in
set_option maxHeartbeats 2000000 in
theorem rdByte_any (g : Nat) (gb : Option Nat) (s : Option (List Int)) (w : World) (hr : PR w g gb s) :
    Calls Try.prog 17 #[.pointer (some ⟨g, 0, none⟩)] w (PRPost w g gb (.int .u8 (rdByte s).1) (rdByte s).2) := by
  obtain ⟨a, n, cap, bad, hd, hgb, hne, hnone, hsome⟩ := hr
  have c0 := hd.cell0
  have f0 := hd.frozen 0
  have HF := Lib.hid (fun W h => fail_any g a n cap bad W h)
  have HD := Lib.hid hd
  clear hd
  go_enter Try.func17, Try.ntmps17
  by_cases hn : n = 0
  · subst hn
    have e : rdByte s = (0, none) := by
      cases s with
      | none => rfl
      | some r =>
        obtain ⟨_, hin, _⟩ := hsome r rfl
        have := List.eq_nil_of_length_eq_zero hin.len
        subst this
        rfl
    rw [e]
    go_wp2_with (first
      | (go_at_call 26
         (with_reducible refine (HF.out _ HD.out).mono ?_)
         rintro _ w1 ⟨rfl, hd1, hg1⟩
         have HD1 := Lib.hid hd1
         have HG1 := Lib.hid hg1
         clear hd1 hg1))
    go_ret
    exact ⟨rfl, ⟨none, 0, 0, true, HD1.out, (fun ad h => by cases h), hne, fun _ => ⟨rfl, rfl, rfl, rfl⟩, (fun r h => by cases h)⟩, HG1.out⟩
  · cases s with
    | none => exact absurd (hnone rfl).2.2.1 hn
    | some r =>
      obtain ⟨rfl, hin, hmx⟩ := hsome r rfl
      have hl := hin.len
      cases r with
      | nil => exact absurd hl.symm hn
      | cons c r =>
        obtain ⟨ga, off, rfl, hga, hseg⟩ := hin.place (by omega)
        have cb := hseg.cellD 0 (by simp)
        rw [Nat.add_zero] at cb
        have e : (c :: r).getD 0 0 = c := rfl
        rw [e] at cb
        have hle := hin.le
        have hb := hin.behind 1 (by omega)
        have HIN := Lib.hid hin
        have HBE := Lib.hid hb
        have q1 : ((n : Int) == 0) = false := by simp; omega
        have q2 : (0 : Int) < (n : Int) := by omega
        have q3 : (1 : Int) ≤ (n : Int) := by omega
        obtain rfl : gb = some ga := hgb _ rfl
        clear hin hseg hb hnone hsome e hgb
        go_wp2_with fail
        all_goals
          go_ret
          have hpr := PR.move HD.out rfl hne HIN.out 1 (by omega) hmx
        · subst h
          rw [if_pos rfl] at hpr
          exact ⟨rfl, hpr, only_set (only_refl w _) 0 _⟩
        · rw [if_neg (by assumption)] at hpr
          exact ⟨rfl, hpr, only_set (only_refl w _) 0 _⟩

set_option maxRecDepth 100000 in
set_option maxHeartbeats 2000000 in
theorem rdEnd_any (g : Nat) (gb : Option Nat) (s : Option (List Int)) (w : World) (hr : PR w g gb s) :
    Calls Try.prog 21 #[.pointer (some ⟨g, 0, none⟩)] w (fun e w' => e = .returned (codeV (rdEnd s).toNat) ∧ ∃ m, w' = w.drewN m) := by
  obtain ⟨a, n, cap, bad, hd, hgb, hne, hnone, hsome⟩ := hr
  have c0 := hd.cell0
  have c1 := hd.cell1
  clear hd
  go_enter Try.func21, Try.ntmps21
  cases s with
  | none =>
    obtain ⟨rfl, _⟩ := hnone rfl
    go_wp2_with fail
    go_ret
    exact ⟨rfl, 0, rfl⟩
  | some r =>
    obtain ⟨rfl, hin, _⟩ := hsome r rfl
    have hl := hin.len
    cases r with
    | nil =>
      have hn : n = 0 := hl.symm
      subst hn
      go_wp2_with fail
      go_ret
      exact ⟨rfl, 0, rfl⟩
    | cons c r =>
      have hn : (0 : Int) < (n : Int) := by simp at hl; omega
      go_wp2_with fail
      go_ret
      exact ⟨rfl, 0, rfl⟩
end Go.Proofs.Ytnjjihikjcfliaa
