/- A region that draws its order, by an invariant; bytes appended to an empty row. No program is named here. -/
import Derived.Test.YtpjojhmdgeejmaaCutLib
import Derived.Deep.RegionHeld3
namespace Go.Proofs.Ytpjojhmdgeejmaa
open Go.RowKit
set_option linter.unusedVariables false

/-- Whatever the order: what holds of the frame and the world (J), by what has come up, is kept by each operation that may come up. -/
theorem wpAnyH_inv {P : Program} {md : Region.Mode} {ops : Array Oper} {Q : Exit → Act → World → Prop} {S : World → Prop} (J : Array Bool → Act → World → Prop) (m : Array Bool → Nat)
    (hstep : ∀ listed a w, J listed a w → ∀ i ∈ Region.ready md ops listed, m (listed.setIfInBounds i true) < m listed ∧ wpOp P ops Q i (fun a' w' => S w' ∧ J (listed.setIfInBounds i true) a' w') a w)
    (hdone : ∀ listed a w, J listed a w → Region.ready md ops listed = [] → Q .normal a w) :
    ∀ (fuel : Nat) (listed : Array Bool) (a : Act) (w : World), J listed a w → m listed ≤ fuel → wpAnyH P md ops Q S fuel listed a w
  | 0, listed, a, w, hJ, hm => by
    have h0 : Region.ready md ops listed = [] := by
      cases hr : Region.ready md ops listed with
      | nil => rfl
      | cons i r =>
        have := (hstep listed a w hJ i (by rw [hr]; exact List.mem_cons_self)).1
        omega
    exact ⟨h0, hdone listed a w hJ h0⟩
  | fuel + 1, listed, a, w, hJ, hm =>
    ⟨hdone listed a w hJ, fun i hi => by
      obtain ⟨h1, h2⟩ := hstep listed a w hJ i hi
      exact wpOp_mono (fun a' w' h' => ⟨h'.1, wpAnyH_inv J m hstep hdone fuel _ a' w' h'.2 (by omega)⟩) h2⟩
/-- append([]byte{}, bs...): bytes in new memory; nothing that was there is written. -/
theorem run_append_empty {P : Program} (w : World) (t ty e : TypeId) (i : TypeInfo) (z : Value) (ht : P.underlying t = some (.slice e)) (hi : P.info? e = some i) (hz : i.zero = some z) (hsize : i.size = 1) (hby : i.bytes = 1) (hzs : z.cells.size = 1)
    (g0 : Nat) (hg : w.heap[g0]? = some (.cells #[] e (0, 0))) (ad : Option Addr) (n cap : Nat) (r : List Int) (hin : InBytes w ad n cap r) (hn : n ≤ 100000) :
    ∃ a c w', (Builtin.append_ #[t, t] ty #[.slice (some ⟨g0, 0, none⟩) 0 0, .slice ad n cap]).run P w = .ok (.slice a n c) w' ∧ InBytes w' a n c r ∧ (∀ x, a = some x → (x.block = g0 ∨ w.heap.size ≤ x.block) ∧ x.block < w'.heap.size) ∧ Below w.heap.size w w' := by
  have hown : w.ownsRow 0 e 1 (.slice (some ⟨g0, 0, none⟩) 0 0) 0 [] := ⟨rfl, .inr ⟨g0, 0, #[], rfl, Nat.zero_le _, hg, Nat.le_refl _, Nat.zero_le _, rfl, rfl⟩⟩
  have hlen := hin.len
  have hempty : n = 0 → r = [] := fun h => List.eq_nil_of_length_eq_zero (by omega)
  have hres : n = 0 → InBytes w (some ⟨g0, 0, none⟩) n 0 r := fun h => by
    subst h
    rw [hempty rfl]
    exact ⟨rfl, (fun z hz => by cases hz), Nat.le_refl _, Nat.zero_le _, (fun q => by cases q), fun q => by omega⟩
  by_cases h0 : n = 0
  · have hr := hempty h0
    have hR := hres h0
    subst h0
    subst hr
    refine ⟨some ⟨g0, 0, none⟩, 0, w, ?_, hR, fun x q => by injection q with q; rw [← q]; exact ⟨.inl rfl, (Array.getElem?_eq_some_iff.1 hg).1⟩, Below.refl _ _⟩
    cases ad with
    | none =>
      obtain rfl : cap = 0 := hin.nil rfl
      exact run_append_owned_none (P := P) (w := w) 0 t ty e i 1 ht hi _ 0 [] hown
    | some ad =>
      have hh := run_append_room (P := P) w t ty e i ht hi g0 0 0 #[] hg ad 0 cap [] (by simp) (fun j u hu => by simp at hu) (fun u hu => by cases hu) (Nat.le_refl _) (by simp)
      rw [hh]
      simp only [List.take_nil, List.drop_nil, List.nil_append]
      have e1 : w.setRow g0 #[] = w := setRow_self w g0 #[] e (0, 0) hg
      rw [e1]
  · obtain ⟨g, off, rfl, _, hseg⟩ := hin.place (by omega)
    have hnews : ∀ (j : Nat) (u : Value), (r.map (Value.int .u8))[j]? = some u → w.cell? ((⟨g, off, none⟩ : Addr).add j) = some u := hseg.news
    obtain ⟨v', w', hr, h2, _, _⟩ := run_append_own (P := P) w 0 t ty e i z 1 1 ht hi hz hsize hby hzs (by omega) _ 0 [] hown ⟨g, off, none⟩ n cap (r.map (Value.int .u8)) (by simp [hlen]) hnews (by simp [Value.oneCell']) (by simp only [maxLen]; omega) (by omega) (Nat.zero_le _)
    have hr2 := run_append_grow (P := P) w t ty e i z ht hi hz ⟨g0, 0, none⟩ 0 0 [] (by simp) (fun j u hu => by simp at hu) ⟨g, off, none⟩ n cap (r.map (Value.int .u8)) (by simp [hlen, hsize]) hnews (by omega) (by omega) (growslice_fits (by omega) (by rw [hby]; omega))
    rw [hr] at hr2
    injection hr2 with e1 e2
    rw [e1, e2] at h2 hr
    simp only [Nat.zero_add, List.nil_append] at h2 hr
    exact ⟨_, _, _, hr, InBytes.of_own (zs := r) h2 hin.bytes, fun x q => by injection q with q; rw [← q]; exact ⟨.inr (Nat.le_refl _), by simp⟩, ((Below.refl w.heap.size w).drew).alloc (Nat.le_refl _) _⟩
theorem step_append_empty {P : Program} (w : World) {ops : Array Oper} {o : Oper} {a : Act} {K : Act → World → Prop} {Q : Exit → Act → World → Prop} {E : Prop} (hgd : o.guard = none) (s x : Operand) (t : TypeId)
    (ho : o.op = .call { callee := .builtin .append, args := #[s, x], argTypes := #[t, t] }) (e : TypeId) (i : TypeInfo) (z : Value) (ht : P.underlying t = some (.slice e)) (hi : P.info? e = some i) (hz : i.zero = some z) (hsize : i.size = 1) (hby : i.bytes = 1) (hzs : z.cells.size = 1)
    (g0 : Nat) (hs : a.eval s = .slice (some ⟨g0, 0, none⟩) 0 0) (hg : w.heap[g0]? = some (.cells #[] e (0, 0))) (ad : Option Addr) (n cap : Nat) (r : List Int) (hx : a.eval x = .slice ad n cap) (hin : InBytes w ad n cap r) (hn : n ≤ 100000)
    (h : ∀ b c w', InBytes w' b n c r → (∀ y, b = some y → (y.block = g0 ∨ w.heap.size ≤ y.block) ∧ y.block < w'.heap.size) → Below w.heap.size w w' → K (a.put o.dst (.slice b n c)) w') : if Region.wanted o (yielded ops a.tmps) = true then Oper.wp P o a w K Q else E := by
  have hw : Region.wanted o (yielded ops a.tmps) = true := by simp [Region.wanted, hgd]
  rw [if_pos hw]
  obtain ⟨b, c, w', hr, h1, h2, h3⟩ := run_append_empty (P := P) w t o.type e i z ht hi hz hsize hby hzs g0 hg ad n cap r hin hn
  unfold Oper.wp execOp
  simp only [ho, resolve, invoke, builtin, Sem.run_bind, Sem.run_pure, Result.andThen_ok, List.map_toArray, List.map_cons, List.map_nil, hs, hx, hr]
  exact h b c w' h1 h2 h3
end Go.Proofs.Ytpjojhmdgeejmaa
