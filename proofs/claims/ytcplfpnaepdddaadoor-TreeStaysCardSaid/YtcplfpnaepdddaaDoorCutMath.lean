/- A tree in which parts are told by their digests, as a function. No program is named here. -/
import Derived.Test.YtcplfpnaepdddaaDoorRefTree2
import Derived.Test.YtcplfpnaepdddaaDoorTreeDig
namespace Go.Proofs.YtcplfpnaepdddaaDoor
set_option linter.unusedVariables false

theorem mk_k (k : Int) (a b c : List Int) (d : List Tr) : (Tr.mk k a b c d).k = k := rfl
theorem mk_key (k : Int) (a b c : List Int) (d : List Tr) : (Tr.mk k a b c d).key = a := rfl
theorem mk_val (k : Int) (a b c : List Int) (d : List Tr) : (Tr.mk k a b c d).val = b := rfl
theorem mk_dig (k : Int) (a b c : List Int) (d : List Tr) : (Tr.mk k a b c d).dig = c := rfl
theorem mk_kids (k : Int) (a b c : List Int) (d : List Tr) : (Tr.mk k a b c d).kids = d := rfl
/-- The parts that stand n deep are told by their digests alone; if dark, the values above them too. -/
def cutT (k : Nat) (dark : Bool) : Nat → Tr → Tr
  | 0, t => .mk 3 [] [] ((digT k t).getD []) []
  | n + 1, t => if t.kids.length = 2 then (if (dark && t.k == 1) = true then .mk 2 t.key [] ((sumL (valL t.val)).take k) (t.kids.map (cutT k dark n)) else .mk t.k t.key t.val t.dig (t.kids.map (cutT k dark n))) else t
theorem deep_mono : ∀ (t : Tr) (b b' : Int), deepT t b = false → 0 ≤ b → b ≤ b' → deepT t b' = false := by
  intro t
  induction t using Tr.ind with
  | h t ih =>
  intro b b' hd hb hbb
  rw [deepT_eq, Bool.or_eq_false_iff] at hd ⊢
  refine ⟨?_, ?_⟩
  · rw [Bool.and_eq_false_iff] at hd ⊢
    rcases hd.1 with h | h
    · exact .inl h
    · right
      rw [beq_eq_false_iff_ne] at h ⊢
      omega
  · by_cases h0 : 0 < t.kids.length
    · have hn : isNode t = true := by unfold isNode; simp [h0]
      rw [hn, Bool.true_and, beq_eq_false_iff_ne] at hd
      have h2 := hd.2
      rw [List.any_eq_false] at h2 ⊢
      intro x hx
      have := ih x hx (b - 1) (b' - 1) (by simpa using h2 x hx) (by omega) (by omega)
      simp [this]
    · have e : t.kids = [] := List.eq_nil_of_length_eq_zero (by omega)
      rw [e]
      rfl
theorem cut_dig {k : Nat} (hk : k ≤ 32) (dark : Bool) : ∀ (n : Nat) (t : Tr) (zs : List Int), formedT t = true → digT k t = some zs → digT k (cutT k dark n t) = some zs := by
  intro n
  induction n with
  | zero =>
    intro t zs hf hd
    have hl := digT_len hk hd
    unfold cutT
    rw [hd, digT_3 rfl, Option.getD_some]
    exact if_pos hl
  | succ n ih =>
    intro t zs hf hd
    obtain ⟨hp, hkf⟩ := formed_kids hf
    unfold cutT
    by_cases h2 : t.kids.length = 2
    · rw [if_pos h2]
      have h12 : t.k = 1 ∨ t.k = 2 := by
        rcases part_kids hp with ⟨h0, _⟩ | ⟨_, h⟩
        · omega
        · exact h
      have l0 : 0 < t.kids.length := by omega
      have l1 : 1 < t.kids.length := by omega
      have key : ∀ u : Tr, u.k ≠ 0 → u.k ≠ 3 → u.kids = t.kids.map (cutT k dark n) → valT k u = valT k t → u.key = t.key → digT k u = some zs := by
        intro u hu0 hu3 huk huv hukey
        by_cases hv : (valT k t).length = k
        · rw [digT_node (by omega) (by omega) hv h2] at hd
          have hul : u.kids.length = 2 := by rw [huk, List.length_map]; exact h2
          rw [digT_node hu0 hu3 (by rw [huv]; exact hv) hul]
          have e0 : u.kids[0]'(by omega) = cutT k dark n (t.kids[0]'l0) := by simp [huk]
          have e1 : u.kids[1]'(by omega) = cutT k dark n (t.kids[1]'l1) := by simp [huk]
          rw [e0, e1, huv, hukey]
          split at hd
          · rename_i l r q0 q1
            rw [ih _ l (hkf 0 l0) q0, ih _ r (hkf 1 l1) q1]
            exact hd
          · cases hd
        · rw [digT_bad (by omega) (by omega) hv] at hd
          cases hd
      split
      · rename_i hdk
        rw [Bool.and_eq_true, beq_iff_eq] at hdk
        refine key _ (by rw [mk_k]; omega) (by rw [mk_k]; omega) rfl ?_ rfl
        unfold valT
        rw [if_pos hdk.2]
        rfl
      · exact key _ (by rw [mk_k]; omega) (by rw [mk_k]; omega) rfl rfl rfl
    · rw [if_neg h2]
      exact hd
theorem cut_formed {k : Nat} (dark : Bool) : ∀ (n : Nat) (t : Tr), formedT t = true → formedT (cutT k dark n t) = true := by
  intro n
  induction n with
  | zero =>
    intro t hf
    unfold cutT
    rw [formedT_eq]
    simp [partB, mk_k, mk_key, mk_val, mk_kids]
  | succ n ih =>
    intro t hf
    obtain ⟨hp, hkf⟩ := formed_kids hf
    unfold cutT
    by_cases h2 : t.kids.length = 2
    · rw [if_pos h2]
      have h12 : t.k = 1 ∨ t.k = 2 := by
        rcases part_kids hp with ⟨h0, _⟩ | ⟨_, h⟩
        · omega
        · exact h
      have hall : (t.kids.map (cutT k dark n)).all formedT = true := by
        rw [List.all_eq_true]
        intro x hx
        rw [List.mem_map] at hx
        obtain ⟨y, hy, rfl⟩ := hx
        obtain ⟨i, hi, rfl⟩ := List.getElem_of_mem hy
        exact ih _ (hkf i hi)
      split
      · rename_i hdk
        rw [Bool.and_eq_true, beq_iff_eq] at hdk
        rw [formedT_eq]
        rw [mk_kids, hall, Bool.and_true]
        unfold partB at hp ⊢
        simp only [mk_k, mk_key, mk_val, mk_kids, List.length_map]
        rw [if_neg (by omega), if_pos hdk.2] at hp
        simp only [Bool.and_eq_true, decide_eq_true_eq] at hp
        simp [hp.1, h2]
      · rw [formedT_eq]
        rw [mk_kids, hall, Bool.and_true]
        have e : partB (Tr.mk t.k t.key t.val t.dig (t.kids.map (cutT k dark n))) = partB t := by
          unfold partB
          simp only [mk_k, mk_key, mk_val, mk_dig, mk_kids, List.length_map]
          rfl
        rw [e]
        exact hp
    · rw [if_neg h2]
      exact hf
theorem cut_deep {k : Nat} (dark : Bool) : ∀ (n : Nat) (t : Tr) (b : Int), deepT t b = false → 0 ≤ b → formedT t = true → deepT (cutT k dark n t) b = false := by
  intro n
  induction n with
  | zero =>
    intro t b hd hb hf
    unfold cutT
    rw [deepT_eq]
    simp [isNode, mk_k, mk_kids]
  | succ n ih =>
    intro t b hd hb hf
    obtain ⟨hp, hkf⟩ := formed_kids hf
    unfold cutT
    by_cases h2 : t.kids.length = 2
    · rw [if_pos h2]
      obtain ⟨hb0, hdk⟩ := deep_kids hd (by omega)
      have hany : (t.kids.map (cutT k dark n)).any (fun x => deepT x (b - 1)) = false := by
        rw [List.any_eq_false]
        intro x hx
        rw [List.mem_map] at hx
        obtain ⟨y, hy, rfl⟩ := hx
        obtain ⟨i, hi, rfl⟩ := List.getElem_of_mem hy
        have := ih _ (b - 1) (hdk i hi) (by omega) (hkf i hi)
        simp [this]
      have hbb : (b == 0) = false := by simpa using hb0
      split
      · rw [deepT_eq, hbb, Bool.and_false, Bool.false_or]
        exact hany
      · rw [deepT_eq, hbb, Bool.and_false, Bool.false_or]
        exact hany
    · rw [if_neg h2]
      exact hd
theorem cut_check {k : Nat} (dark : Bool) (n : Nat) (t : Tr) (hf : formedT t = true) (hd : deepT t 64 = false) : checkT (cutT k dark n t) = 0 := by
  unfold checkT
  rw [cut_deep dark n t 64 hd (by omega) hf, cut_formed dark n t hf]
  rfl
theorem sub_check {t : Tr} {b : Int} (hf : formedT t = true) (hd : deepT t b = false) (h0 : 0 ≤ b) (h64 : b ≤ 64) : checkT t = 0 := by
  unfold checkT
  rw [deep_mono t b 64 hd h0 h64, hf]
  rfl
end Go.Proofs.YtcplfpnaepdddaaDoor
