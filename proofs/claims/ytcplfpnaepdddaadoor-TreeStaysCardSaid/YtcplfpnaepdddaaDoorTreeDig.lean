/- The digest of a tree, as a function. No program is named here. -/
import Derived.Test.YtcplfpnaepdddaaDoorTreeMath
import Derived.Test.YtcplfpnaepdddaaDoorDigMath
import Derived.Test.YtcplfpnaepdddaaDoorShaP
namespace Go.Proofs.YtcplfpnaepdddaaDoor
set_option linter.unusedVariables false

/-- The digest of a value: of a node's, or a dark node's own. -/
def valT (k : Nat) (t : Tr) : List Int := if t.k = 1 then (sumL (valL t.val)).take k else t.dig
/-- The digest of a tree by the width k; none: a digest in it has another width. -/
def digT (k : Nat) (t : Tr) : Option (List Int) := t.fold fun t rs =>
  if t.k = 0 then some ((sumL [3]).take k)
  else if t.k = 3 then (if t.dig.length = k then some t.dig else none)
  else if (valT k t).length ≠ k then none
  else match rs.getD 0 none, rs.getD 1 none with
    | some l, some r => some ((sumL (nodeL l ((sumL (pairL t.key (valT k t))).take k) r)).take k)
    | _, _ => none
theorem digT_0 {k : Nat} {t : Tr} (h : t.k = 0) : digT k t = some ((sumL [3]).take k) := by
  unfold digT
  rw [Tr.fold_eq, if_pos h]
theorem digT_3 {k : Nat} {t : Tr} (h : t.k = 3) : digT k t = if t.dig.length = k then some t.dig else none := by
  unfold digT
  rw [Tr.fold_eq, if_neg (by omega), if_pos h]
theorem digT_bad {k : Nat} {t : Tr} (h0 : t.k ≠ 0) (h3 : t.k ≠ 3) (hv : (valT k t).length ≠ k) : digT k t = none := by
  unfold digT
  rw [Tr.fold_eq, if_neg h0, if_neg h3, if_pos hv]
theorem digT_node {k : Nat} {t : Tr} (h0 : t.k ≠ 0) (h3 : t.k ≠ 3) (hv : (valT k t).length = k) (h2 : t.kids.length = 2) :
    digT k t = match digT k (t.kids[0]'(by omega)), digT k (t.kids[1]'(by omega)) with
    | some l, some r => some ((sumL (nodeL l ((sumL (pairL t.key (valT k t))).take k) r)).take k)
    | _, _ => none := by
  have e : digT k t = match (t.kids.map (digT k)).getD 0 none, (t.kids.map (digT k)).getD 1 none with
      | some l, some r => some ((sumL (nodeL l ((sumL (pairL t.key (valT k t))).take k) r)).take k)
      | _, _ => none := by
    conv => lhs; unfold digT
    rw [Tr.fold_eq, if_neg h0, if_neg h3, if_neg (by omega)]
    rfl
  rw [e]
  simp [List.getD, h2]
theorem take_sum_len {k : Nat} (hk : k ≤ 32) (bs : List Int) : ((sumL bs).take k).length = k := by
  rw [List.length_take, sumL_length]
  omega
theorem digT_len {k : Nat} (hk : k ≤ 32) {t : Tr} {zs : List Int} (h : digT k t = some zs) : zs.length = k := by
  unfold digT at h
  rw [Tr.fold_eq] at h
  split at h
  · injection h with h
    rw [← h]
    exact take_sum_len hk _
  · split at h
    · split at h
      · injection h with h
        rw [← h]
        assumption
      · cases h
    · split at h
      · cases h
      · split at h
        · injection h with h
          rw [← h]
          exact take_sum_len hk _
        · cases h
theorem valL_len (bs : List Int) : (valL bs).length = 1 + bs.length := by simp [valL]; omega
theorem nodeL_len (a b c : List Int) : (nodeL a b c).length = 1 + a.length + b.length + c.length := by simp [nodeL]; omega
theorem pairL_len {a b : List Int} (h : a.length ≤ 1000) : (pairL a b).length ≤ 10 + a.length + b.length := by
  have := numL_le (v := a.length) (by omega)
  simp only [pairL, bytL, List.length_cons, List.length_append]
  omega
end Go.Proofs.YtcplfpnaepdddaaDoor
