/- Plain facts on preimages. No program is named here. -/
import Derived.Test.YtcplfpnaepdddaaDoorCodMath
namespace Go.Proofs.YtcplfpnaepdddaaDoor
set_option linter.unusedVariables false

def valL (v : List Int) : List Int := 0 :: v
def pairL (k d : List Int) : List Int := 1 :: (bytL k ++ d)
def nodeL (l p r : List Int) : List Int := 2 :: (l ++ (p ++ r))
theorem bytes_cons {x : Int} {l : List Int} (h0 : 0 ≤ x) (h1 : x ≤ 255) (h : Bytes8 l) : Bytes8 (x :: l) := fun z hz => by
  rcases List.mem_cons.1 hz with rfl | hz
  · exact ⟨h0, h1⟩
  · exact h z hz
theorem bytes_app {k l : List Int} (hk : Bytes8 k) (hl : Bytes8 l) : Bytes8 (k ++ l) := fun z hz => (List.mem_append.1 hz).elim (hk z) (hl z)
theorem valL_bytes {v : List Int} (h : Bytes8 v) : Bytes8 (valL v) := bytes_cons (by omega) (by omega) h
theorem pairL_bytes {k d : List Int} (hk : Bytes8 k) (hn : k.length < 18446744073709551616) (hd : Bytes8 d) : Bytes8 (pairL k d) := bytes_cons (by omega) (by omega) (bytes_app (bytL_bytes hk hn) hd)
theorem nodeL_bytes {l p r : List Int} (hl : Bytes8 l) (hp : Bytes8 p) (hr : Bytes8 r) : Bytes8 (nodeL l p r) := bytes_cons (by omega) (by omega) (bytes_app hl (bytes_app hp hr))
theorem bytL_length (k : List Int) : (bytL k).length = (numL k.length).length + k.length := by unfold bytL; rw [List.length_append]
theorem pairL_length (k d : List Int) : (pairL k d).length = 1 + (numL k.length).length + k.length + d.length := by unfold pairL; rw [List.length_cons, List.length_append, bytL_length]; omega
theorem nodeL_length (l p r : List Int) : (nodeL l p r).length = 1 + l.length + p.length + r.length := by unfold nodeL; rw [List.length_cons, List.length_append, List.length_append]; omega
theorem bytL_inj {a b x y : List Int} (ha : a.length < 9223372036854775807) (hb : b.length < 9223372036854775807) (h : bytL a ++ x = bytL b ++ y) : a = b ∧ x = y := by
  have h1 := rdBytes_bytL (bs := a) (by omega) x 9223372036854775807 (by omega)
  have h2 := rdBytes_bytL (bs := b) (by omega) y 9223372036854775807 (by omega)
  rw [h, h2] at h1
  injection h1 with h3 h4
  injection h4 with h4
  exact ⟨h3.symm, h4.symm⟩
theorem pairL_inj {a b x y : List Int} (ha : a.length < 9223372036854775807) (hb : b.length < 9223372036854775807) (h : pairL a x = pairL b y) : a = b ∧ x = y := by
  unfold pairL at h
  injection h with _ h
  exact bytL_inj ha hb h
theorem nodeL_inj {x y : List Int} (hl : x.length = y.length) (h : nodeL x y x = nodeL y x x) : x = y := by
  unfold nodeL at h
  injection h with _ h
  exact (List.append_inj h hl).1
end Go.Proofs.YtcplfpnaepdddaaDoor
