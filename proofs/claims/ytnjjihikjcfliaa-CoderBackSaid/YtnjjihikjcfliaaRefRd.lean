/- The contracts of the document's reader. -/
import Derived.Test.YtnjjihikjcfliaaRefNum
namespace Go.Proofs.Ytnjjihikjcfliaa
open Go.RowKit
set_option linter.unusedVariables false

/-- The document's reader lies at block g: its bytes, its place, its flag. -/
def RD (w : World) (g : Nat) (a : Option Addr) (n cap at' : Nat) (bad : Bool) : Prop := w.heap[g]? = some (.cells #[.slice a n cap, .int .i64 at', .bool bad] 33 (0, 0))
section
variable {w w' : World} {g : Nat} {a : Option Addr} {n cap at' : Nat} {bad : Bool}
theorem RD.lt (h : RD w g a n cap at' bad) : g < w.heap.size := by
  rcases Nat.lt_or_ge g w.heap.size with hlt | hge
  · exact hlt
  · unfold RD at h; rw [Array.getElem?_eq_none hge] at h; cases h
theorem RD.cell0 (h : RD w g a n cap at' bad) : w.cell? ⟨g, 0, none⟩ = some (.slice a n cap) := by rw [cell_of_row w g 0 _ _ (0, 0) h]; simp
theorem RD.cell1 (h : RD w g a n cap at' bad) : w.cell? ⟨g, 1, none⟩ = some (.int .i64 at') := by rw [cell_of_row w g 1 _ _ (0, 0) h]; simp
theorem RD.cell2 (h : RD w g a n cap at' bad) : w.cell? ⟨g, 2, none⟩ = some (.bool bad) := by rw [cell_of_row w g 2 _ _ (0, 0) h]; simp
theorem RD.frozen (h : RD w g a n cap at' bad) (i : Nat) : w.frozen? ⟨g, i, none⟩ = false := by
  unfold RD at h
  simp [World.frozen?, h]
theorem RD.set1 (h : RD w g a n cap at' bad) (m : Nat) : RD (w.setCell ⟨g, 1, none⟩ (.int .i64 m)) g a n cap m bad := by
  unfold RD at h ⊢
  simp [World.setCell, Array.getElem?_modify, h]
theorem RD.set2 (h : RD w g a n cap at' bad) (b : Bool) : RD (w.setCell ⟨g, 2, none⟩ (.bool b)) g a n cap at' b := by
  unfold RD at h ⊢
  simp [World.setCell, Array.getElem?_modify, h]
theorem RD.drew (h : RD w g a n cap at' bad) : RD w.drew g a n cap at' bad := h
theorem RD.drewN (h : RD w g a n cap at' bad) (m : Nat) : RD (w.drewN m) g a n cap at' bad := h
theorem RD.alloc (h : RD w g a n cap at' bad) (o : Obj) : RD (w.alloc o) g a n cap at' bad := (Below.heap_alloc w o g h.lt).trans h
theorem RD.below {B : Nat} (h : RD w g a n cap at' bad) (hb : Below B w w') (hg : g < B) : RD w' g a n cap at' bad := (hb.block g hg).trans h
theorem RD.grown {row : Option Nat} (h : RD w g a n cap at' bad) (hb : w.grownBy w' row) (hg : some g ≠ row) : RD w' g a n cap at' bad := (hb.block g h.lt hg).trans h
end
theorem InBytes.grownP {w w' : World} {a : Option Addr} {n cap : Nat} {bs : List Int} {row : Option Nat} (h : InBytes w a n cap bs) (hg : w.grownBy w' row) (hne : 0 < n → ∀ ad, a = some ad → some ad.block ≠ row) : InBytes w' a n cap bs :=
  ⟨h.len, h.bytes, h.le, h.max, h.nil, fun h0 => by
    obtain ⟨g, off, e, hlt, hs⟩ := h.place h0
    exact ⟨g, off, e, Nat.lt_of_lt_of_le hlt hg.size, hs.keep fun o => World.cell?_of_block (hg.block g hlt (hne h0 _ e))⟩⟩
/-- What a reader at the state s looks like in memory. -/
def RefRd (w : World) (g : Nat) (a : Option Addr) (n cap : Nat) (bs : List Int) (s : Option (List Int)) : Prop :=
  ∃ at' bad, RD w g a n cap at' bad ∧ at' ≤ n ∧ (s = none → bad = true) ∧ (∀ r, s = some r → bad = false ∧ r = bs.drop at')
theorem RefRd.grown {w w' : World} {g : Nat} {a : Option Addr} {n cap : Nat} {bs : List Int} {s : Option (List Int)} {row : Option Nat} (h : RefRd w g a n cap bs s) (hg : w.grownBy w' row) (hne : some g ≠ row) : RefRd w' g a n cap bs s := by
  obtain ⟨at', bad, hd, h1, h2, h3⟩ := h
  exact ⟨at', bad, hd.grown hg hne, h1, h2, h3⟩
def RefRdPost (w : World) (g : Nat) (a : Option Addr) (n cap : Nat) (bs : List Int) (v : Value) (s : Option (List Int)) (e : Ending) (w' : World) : Prop :=
  e = .returned v ∧ RefRd w' g a n cap bs s ∧ w.grownBy w' (some g)

set_option maxRecDepth 100000 in
set_option maxHeartbeats 2000000 in
theorem refByte_any (g : Nat) (a : Option Addr) (n cap : Nat) (bs : List Int) (s : Option (List Int)) (w : World) (hin : InBytes w a n cap bs) (hag : 0 < n → ∀ ad, a = some ad → ad.block ≠ g) (hr : RefRd w g a n cap bs s) :
    Calls Try.prog 18 #[.pointer (some ⟨g, 0, none⟩)] w (RefRdPost w g a n cap bs (.int .u8 (rdByte s).1) (rdByte s).2) := by
  obtain ⟨at', bad, hd, hat, hnone, hsome⟩ := hr
  have hbl := hin.len
  have hle := hin.le
  have hmax := hin.max
  simp only [maxLen] at hmax
  have c0 := hd.cell0
  have c1 := hd.cell1
  have c2 := hd.cell2
  have f1 := hd.frozen 1
  have f2 := hd.frozen 2
  have HD := Lib.hid hd
  have HIN := Lib.hid hin
  clear hd hin
  cases s with
  | none =>
    obtain rfl := hnone rfl
    clear hnone hsome
    go_enter Try.func18, Try.ntmps18
    go_wp2_with fail
    go_quiet (fail)
    go_wp2_with fail
    go_ret
    exact ⟨rfl, ⟨at', true, (HD.out.drewN nq).set2 true, hat, fun _ => rfl, fun r h => by cases h⟩, only_set (only_drawn (only_refl w _) nq) 2 _⟩
  | some r =>
    obtain ⟨rfl, hr⟩ := hsome r rfl
    clear hnone hsome
    by_cases hlt : at' < n
    · obtain ⟨ga, off, rfl, hga, hseg⟩ := HIN.out.place (by omega)
      have hne := hag (by omega) _ rfl
      have cb := hseg.cellD at' (by omega)
      have hrr : r = bs.getD at' 0 :: bs.drop (at' + 1) := by rw [hr, List.drop_eq_getElem_cons (by omega)]; simp [List.getD, show at' < bs.length by omega]
      have h1 : ¬ (n : Int) ≤ (at' : Int) := by omega
      have h2 : IntKind.i64.wrap ((at' : Int) + 1) = (at' : Int) + 1 := IntWalk.i64_in _ (by omega)
      subst hrr
      clear hr
      generalize bs.getD at' 0 = c at *
      go_enter Try.func18, Try.ntmps18
      go_wp2_with fail
      go_quiet (fail)
      go_wp2_with fail
      have HD2 := Lib.hid ((HD.out.drewN nq).set1 (at' + 1))
      obtain ⟨w2, hw2⟩ : ∃ w2, w2 = (w.drewN nq).setCell ⟨g, 1, none⟩ (.int .i64 ((at' : Int) + 1)) := ⟨_, rfl⟩
      rw [← hw2]
      have HD3 : Hid (RD w2 g (some ⟨ga, off, none⟩) n cap (at' + 1) false) := Lib.hid (by rw [hw2]; exact HD2.out)
      have hg2 : w.grownBy w2 (some g) := by rw [hw2]; exact only_set (only_drawn (only_refl w _) nq) 1 _
      have cb2 : w2.cell? ⟨ga, off + at', none⟩ = some (.int .u8 c) := by rw [World.cell?_of_block (hg2.block ga hga (by simp; omega))]; exact cb
      have d0 := HD3.out.cell0
      have d1 := HD3.out.cell1
      have h3 : IntKind.i64.wrap ((at' : Int) + 1 - 1) = (at' : Int) := by rw [show (at' : Int) + 1 - 1 = at' by omega]; exact IntWalk.i64_in _ (by omega)
      have h4 : (0 : Int) ≤ (at' : Int) := by omega
      have HG2 := Lib.hid hg2
      rw [show ((at' + 1 : Nat) : Int) = (at' : Int) + 1 by omega] at d1
      clear hw2 hg2 c0 c1 c2 cb HD2
      go_quiet (fail)
      go_wp2_with fail
      go_ret
      exact ⟨rfl, ⟨at' + 1, false, HD3.out.drewN _, by omega, (fun h => by cases h), fun r h => ⟨rfl, by injection h with h; exact h.symm⟩⟩, only_drawn HG2.out _⟩
    · have h1 : (n : Int) ≤ (at' : Int) := by omega
      have hrr : r = [] := by rw [hr]; exact List.drop_eq_nil_of_le (by omega)
      subst hrr
      clear hr
      go_enter Try.func18, Try.ntmps18
      go_wp2_with fail
      go_quiet (fail)
      go_wp2_with fail
      go_ret
      exact ⟨rfl, ⟨at', true, (HD.out.drewN nq).set2 true, hat, fun _ => rfl, fun r h => by cases h⟩, only_set (only_drawn (only_refl w _) nq) 2 _⟩

theorem rdNum_of_byte (s : Option (List Int)) (h : (rdByte s).2 = none) : rdNum s = (0, none) ∧ (rdByte s).1 = 0 := by
  cases s with
  | none => exact ⟨rfl, rfl⟩
  | some r => cases r with
    | nil => exact ⟨rfl, rfl⟩
    | cons c r => simp [rdByte] at h
theorem rdNum_big (c : Int) (k : Nat) (r : List Int) (hc : c - 247 = (k : Int)) (hk : 1 ≤ k) :
    rdNum (some (c :: r)) = if r.length < k then (0, none) else if r.getD 0 0 = 0 ∨ val (r.take k) < 248 then (0, none) else (val (r.take k), some (r.drop k)) := by
  have e : (c - 247).toNat = k := by omega
  have e2 : ¬ c < 248 := by omega
  simp only [rdNum, getNum, e, e2, if_false]
  split
  · rename_i h
    split at h
    · rename_i h1; rw [if_pos h1]
    · rename_i h1
      split at h
      · rename_i h2; rw [if_neg h1, if_pos h2]
      · cases h
  · rename_i v r' h
    split at h
    · cases h
    · rename_i h1
      split at h
      · cases h
      · rename_i h2
        injection h with h
        injection h with h3 h4
        rw [if_neg h1, if_neg h2, h3, h4]
theorem rdByte_some {s : Option (List Int)} {r : List Int} (h : (rdByte s).2 = some r) : s = some ((rdByte s).1 :: r) := by
  cases s with
  | none => simp [rdByte] at h
  | some l => cases l with
    | nil => simp [rdByte] at h
    | cons c t => simp [rdByte] at h ⊢; exact h

set_option maxRecDepth 100000 in
set_option maxHeartbeats 2000000 in
theorem refRdNumber_any (g : Nat) (a : Option Addr) (n cap : Nat) (bs : List Int) (s : Option (List Int)) (w : World) (hin : InBytes w a n cap bs) (hag : 0 < n → ∀ ad, a = some ad → ad.block ≠ g) (hr : RefRd w g a n cap bs s) (hb8 : ∀ r, s = some r → Bytes8 r) :
    Calls Try.prog 16 #[.pointer (some ⟨g, 0, none⟩)] w (RefRdPost w g a n cap bs (.int .u64 (rdNum s).1) (rdNum s).2) := by
  have hbl := hin.len
  have hle := hin.le
  have hmax := hin.max
  simp only [maxLen] at hmax
  have HIN := Lib.hid hin
  have HR := Lib.hid hr
  have HB8 := Lib.hid hb8
  clear hin hr hb8
  go_enter Try.func16, Try.ntmps16
  go_wp2_with fail
  refine (refByte_any g a n cap bs s _ HIN.out hag HR.out).mono ?_
  rintro _ w1 ⟨rfl, ⟨at', bad, hd, hat, hnone, hsome⟩, hg1⟩
  have hin1 := HIN.out.grownP hg1 (fun h0 ad h => by simp; exact hag h0 ad h)
  have c0 := hd.cell0
  have c1 := hd.cell1
  have c2 := hd.cell2
  have f1 := hd.frozen 1
  have f2 := hd.frozen 2
  have HD := Lib.hid hd
  have HIN1 := Lib.hid hin1
  have HG1 := Lib.hid hg1
  clear hd hin1 hg1
  cases hs : (rdByte s).2 with
  | none =>
    obtain ⟨e1, e2⟩ := rdNum_of_byte s hs
    obtain rfl := hnone hs
    rw [e1, e2]
    clear hnone hsome
    go_wp2_with fail
    go_ret
    rw [e1]
    exact ⟨rfl, ⟨at', true, HD.out, hat, fun _ => rfl, fun r h => by cases h⟩, HG1.out⟩
  | some r =>
    have e1 := rdByte_some hs
    obtain ⟨rfl, hr⟩ := hsome r hs
    have hc := HB8.out _ e1 (rdByte s).1 (by simp)
    have hr8 : Bytes8 r := fun z hz => HB8.out _ e1 z (List.mem_cons_of_mem _ hz)
    generalize (rdByte s).1 = c at *
    subst e1
    clear hnone hsome hs
    have hrl : r.length = n - at' := by rw [hr, List.length_drop, hbl]
    by_cases h1 : c < 248
    · have e2 : rdNum (some (c :: r)) = (c.toNat, some r) := by simp [rdNum, getNum, h1]
      go_wp2_with fail
      go_ret
      rw [e2]
      exact ⟨by rw [show ((c.toNat : Nat) : Int) = c by omega]; rfl, ⟨at', false, HD.out, hat, (fun h => by cases h), fun r' h => ⟨rfl, by injection h with h; rw [← h]; exact hr⟩⟩, HG1.out⟩
    · obtain ⟨k, hk, hk1, hk8⟩ : ∃ k : Nat, c - 247 = (k : Int) ∧ 1 ≤ k ∧ k ≤ 8 := ⟨(c - 247).toNat, by omega, by omega, by omega⟩
      have e2 := rdNum_big c k r hk hk1
      have h1' : ¬ c < 248 := h1
      have HBA := Lib.hid e2
      have ek : IntKind.i64.wrap (c - 247) = (k : Int) := by rw [hk]; exact IntWalk.i64_in _ (by omega)
      clear hk e2
      by_cases h2 : r.length < k
      · have h3 : (n : Int) - (at' : Int) < (k : Int) := by omega
        go_wp2_with fail
        go_quiet (fail)
        go_wp2_with fail
        go_ret
        rw [HBA.out, if_pos h2]
        exact ⟨rfl, ⟨at', true, (HD.out.drewN nq).set2 true, hat, fun _ => rfl, fun r h => by cases h⟩, only_set (only_drawn HG1.out nq) 2 _⟩
      · have h3 : ¬ (n : Int) - (at' : Int) < (k : Int) := by omega
        obtain ⟨ga, off, rfl, hga, hseg⟩ := HIN1.out.place (by omega)
        have hcell : ∀ i, i < k → w1.cell? ⟨ga, off + (at' + i), none⟩ = some (.int .u8 (r.getD i 0)) := fun i hi => by
          have h := hseg.cellD (at' + i) (by omega)
          rw [h, hr]
          simp [List.getD, List.getElem?_drop]
        have hne := hag (by omega) _ rfl
        have HCE := Lib.hid hcell
        clear hcell hseg
        go_wp2_with fail
        go_quiet (fail)
        go_wp2_with fail
        go_loopw [5, 6] (fun s5 s6 wx => ∃ i m : Nat, i ≤ k ∧ s5 = .int .u64 (val (r.take i)) ∧ s6 = .int .i64 i ∧ wx = w1.drewN m) (fun _ s6 _ => k - (intOf s6).toNat)
        case atStart => exact ⟨0, nq, by omega, rfl, rfl, rfl⟩
        case round =>
          obtain ⟨i, m, hi, rfl, rfl, rfl⟩ := hrel
          have hv1 := val_lt (l := r.take i) (fun z hz => hr8 z (List.mem_of_mem_take hz))
          have hv2 : 256 ^ (r.take i).length = 256 ^ i := by rw [List.length_take, Nat.min_eq_left (by omega)]
          rw [hv2] at hv1
          by_cases hlt : i < k
          · have cb := HCE.out i hlt
            have hx := byte_at hr8 i
            have hv3 : 256 ^ i ≤ 256 ^ 7 := Nat.pow_le_pow_right (by omega) (by omega)
            have hnx : val (r.take (i + 1)) = 256 * val (r.take i) + (r.getD i 0).toNat := by
              rw [List.take_succ_eq_append_getElem (by omega), val_snoc]
              simp [List.getD, show i < r.length by omega]
            have HNX := Lib.hid hnx
            have e5 : (256 : Nat) ^ 7 = 72057594037927936 := by decide
            generalize val (r.take i) = v at *
            generalize r.getD i 0 = x at *
            have q1 : IntKind.u64.wrap (256 * (v : Int)) = 256 * (v : Int) := IntWalk.u64_in _ (by omega)
            have q2 : IntKind.u64.wrap (256 * (v : Int) + x) = 256 * (v : Int) + x := IntWalk.u64_in _ (by omega)
            have q3 : IntKind.i64.wrap ((at' : Int) + (i : Int)) = (at' : Int) + (i : Int) := IntWalk.i64_in _ (by omega)
            have q4 : ((at' : Int) + (i : Int)).toNat = at' + i := by omega
            have q5 : (at' : Int) + (i : Int) < (n : Int) := by omega
            have q6 : (0 : Int) ≤ (at' : Int) + (i : Int) := by omega
            have q7 : IntKind.u64.wrap x = x := IntWalk.u64_in _ (by omega)
            have q8 : (i : Int) < (k : Int) := by omega
            have hxx : ((256 * v + x.toNat : Nat) : Int) = 256 * (v : Int) + x := by omega
            have HXX := Lib.hid hxx
            clear hnx hv1 hv2 hv3 e5 hxx
            go_wp2_with fail
            go_quiet (fail)
            go_wp2_with fail
            refine ⟨⟨i + 1, m + nq, by omega, ?_, by go_num, rfl⟩, by simp [intOf]; omega⟩
            rw [HNX.out, HXX.out]
          · obtain rfl : i = k := by omega
            have cb := HCE.out 0 (by omega)
            rw [Nat.add_zero] at cb
            have hx := byte_at hr8 0
            have hnd : r.drop i = bs.drop (at' + i) := by rw [hr, List.drop_drop]
            have hv9 : 256 ^ i ≤ 256 ^ 8 := Nat.pow_le_pow_right (by omega) (by omega)
            have e8 : (256 : Nat) ^ 8 = 18446744073709551616 := by decide
            have hba := HBA.out
            rw [if_neg h2] at hba
            generalize val (r.take i) = v at *
            generalize r.getD 0 0 = x at *
            have HBA2 := Lib.hid hba
            have q1 : IntKind.i64.wrap ((at' : Int) + (i : Int)) = (at' : Int) + (i : Int) := IntWalk.i64_in _ (by omega)
            have q2 : (at' : Int) < (n : Int) := by omega
            have q3 : (0 : Int) ≤ (at' : Int) := by omega
            have q5 : ¬ (i : Int) < (i : Int) := by omega
            have HND := Lib.hid hnd
            clear hba HBA hnd hv1 hv2 hv9 e8 HCE
            by_cases hx0 : x = 0
            · subst hx0
              go_wp2_with fail
              go_quiet (fail)
              go_wp2_with fail
              go_ret
              rw [HBA2.out, if_pos (by simp)]
              exact ⟨rfl, ⟨at', true, (HD.out.drewN _).set2 true, hat, fun _ => rfl, fun r h => by cases h⟩, only_set (only_drawn HG1.out _) 2 _⟩
            · have hx1 : (x == 0) = false := by simpa using hx0
              by_cases hv0 : v < 248
              · have hv1 : (v : Int) < 248 := by omega
                go_wp2_with fail
                go_quiet (fail)
                go_wp2_with fail
                · go_ret
                  rw [HBA2.out, if_pos (.inr hv0)]
                  exact ⟨rfl, ⟨at', true, (HD.out.drewN _).set2 true, hat, fun _ => rfl, fun r h => by cases h⟩, only_set (only_drawn HG1.out _) 2 _⟩
              · have hv1 : ¬ (v : Int) < 248 := by omega
                go_wp2_with fail
                go_quiet (fail)
                go_wp2_with fail
                · go_ret
                  rw [HBA2.out, if_neg (by omega)]
                  refine ⟨rfl, ⟨at' + i, false, ?_, by omega, (fun h => by cases h), fun r' h => ⟨rfl, by injection h with h; rw [← h]; exact HND.out⟩⟩, only_set (only_drawn HG1.out _) 1 _⟩
                  have h := (HD.out.drewN (m + nq)).set1 (at' + i)
                  rw [show ((at' + i : Nat) : Int) = (at' : Int) + (i : Int) by omega] at h
                  exact h

set_option maxRecDepth 100000 in
set_option maxHeartbeats 2000000 in
theorem refEnd_any (g : Nat) (a : Option Addr) (n cap : Nat) (bs : List Int) (s : Option (List Int)) (w : World) (hbl : bs.length = n) (hr : RefRd w g a n cap bs s) :
    Calls Try.prog 23 #[.pointer (some ⟨g, 0, none⟩)] w (fun e w' => e = .returned (.int .i64 (rdEnd s)) ∧ ∃ m, w' = w.drewN m) := by
  obtain ⟨at', bad, hd, hat, hnone, hsome⟩ := hr
  have c0 := hd.cell0
  have c1 := hd.cell1
  have c2 := hd.cell2
  clear hd
  go_enter Try.func23, Try.ntmps23
  cases s with
  | none =>
    obtain rfl := hnone rfl
    clear hnone hsome
    go_wp2_with fail
    go_ret
    exact ⟨rfl, 0, rfl⟩
  | some r =>
    obtain ⟨rfl, hr⟩ := hsome r rfl
    clear hnone hsome
    by_cases hlt : at' < n
    · have h1 : (at' : Int) < (n : Int) := by omega
      have e : rdEnd (some r) = 4 := by
        cases r with
        | nil => have := congrArg List.length hr; simp at this; omega
        | cons c t => rfl
      rw [e]
      go_wp2_with fail
      go_quiet (fail)
      go_wp2_with fail
      go_ret
      exact ⟨rfl, nq, rfl⟩
    · have h1 : ¬ (at' : Int) < (n : Int) := by omega
      have e : rdEnd (some r) = 0 := by rw [hr, List.drop_eq_nil_of_le (by omega)]; rfl
      rw [e]
      go_wp2_with fail
      go_quiet (fail)
      go_wp2_with fail
      go_ret
      exact ⟨rfl, nq, rfl⟩
end Go.Proofs.Ytnjjihikjcfliaa
