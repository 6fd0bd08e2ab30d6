/- Spans that lie one behind the other; the point of a key: what a tree has there. No program is named here. -/
import Derived.Test.YtpjojhmdgeejmaaSpanMath
import Derived.Test.YtpjojhmdgeejmaaPair
import Derived.Test.YtpjojhmdgeejmaaAvlGood
import Derived.Test.YtpjojhmdgeejmaaScanDef
namespace Go.Proofs.Ytpjojhmdgeejmaa
set_option linter.unusedVariables false

/-- Two spans that lie one behind the other have the pairs of the whole. -/
theorem parts_whole {f t at' : List Int} {o : Bool} (h1 : ltL at' f = false) (h2 : (o || !ltL t at') = true) : ∀ {l : List KV}, Rise l →
    l.filter (fun p => inS f at' false p.1) ++ l.filter (fun p => inS at' t o p.1) = l.filter (fun p => inS f t o p.1)
  | [], _ => rfl
  | x :: r, h => by
    have hr : Rise r := (List.pairwise_cons.1 h).2
    have hx := (List.pairwise_cons.1 h).1
    cases c : ltL x.1 at' with
    | true =>
      have eB : inS at' t o x.1 = false := by unfold inS; rw [c]; rfl
      have eo : (o || ltL x.1 t) = true := by
        cases ho : o with
        | true => rfl
        | false =>
          rw [ho] at h2
          have q : ltL t at' = false := by simpa using h2
          rcases ltL_three at' t with d | d | d
          · rw [ltL_trans c d]; rfl
          · rw [← d, c]; rfl
          · rw [d] at q; cases q
      have eA : inS f at' false x.1 = inS f t o x.1 := by unfold inS; rw [c, eo]; rfl
      have ih := parts_whole h1 h2 hr
      simp only [List.filter_cons, eB, eA]
      cases inS f t o x.1
      · simpa using ih
      · simpa using ih
    | false =>
      have ge : ∀ y ∈ x :: r, ltL y.1 at' = false := fun y hy => by
        rcases List.mem_cons.1 hy with rfl | hy
        · exact c
        · cases d : ltL y.1 at' with
          | false => rfl
          | true =>
            have := ltL_trans (hx y hy) d
            rw [c] at this
            cases this
      have gf : ∀ y ∈ x :: r, ltL y.1 f = false := fun y hy => by
        cases d : ltL y.1 f with
        | false => rfl
        | true =>
          have q := ge y hy
          rcases ltL_three at' f with e | e | e
          · rw [h1] at e; cases e
          · rw [e, d] at q; cases q
          · rw [ltL_trans d e] at q; cases q
      have eA : (x :: r).filter (fun p => inS f at' false p.1) = [] := List.filter_eq_nil_iff.2 fun y hy => by unfold inS; rw [ge y hy]; simp
      rw [eA, List.nil_append]
      refine List.filter_congr fun y hy => ?_
      unfold inS
      rw [ge y hy, gf y hy]
/-- The pairs with one key. -/
theorem filter_point : ∀ {l : List KV} {key : List Int}, Rise l → l.filter (fun p => p.1 == key) = (l.find? (fun p => p.1 == key)).toList
  | [], _, _ => rfl
  | x :: r, key, h => by
    have hr : Rise r := (List.pairwise_cons.1 h).2
    have hx := (List.pairwise_cons.1 h).1
    rw [List.filter_cons, List.find?_cons]
    cases c : (x.1 == key) with
    | false => simpa using filter_point hr
    | true =>
      have e : r.filter (fun p => p.1 == key) = [] := List.filter_eq_nil_iff.2 fun y hy => by
        have hk : x.1 = key := by simpa using c
        have := ltL_ne (hx y hy)
        rw [hk] at this
        simpa using fun q : y.1 = key => this q.symm
      simp [e]
/-- The keys of a tree in memory are bytes. -/
theorem AT.bytes {w : World} : ∀ {a : AT} {h : TH}, InTree w h a.tr → ∀ p ∈ a.pairs, Bytes8 p.1 := by
  intro a
  induction a with
  | nil => intro h _ p hp; cases hp
  | node l k v r ihl ihr =>
    intro h ht p hp
    obtain ⟨H, hq⟩ := ht.parts
    simp only [AT.pairs, List.mem_append, List.mem_cons] at hp
    rcases hp with hp | rfl | hp
    · exact ihl (hq.kids 0 (by rw [AT.tr_kids]; simp)) p hp
    · exact hq.key.bytes
    · exact ihr (hq.kids 1 (by rw [AT.tr_kids]; simp)) p hp
/-- The range of a point is what is there. -/
theorem point_pairs {w : World} {a : AT} {h : TH} (ht : InTree w h a.tr) (hr : Rise a.pairs) (key : List Int) : a.pairs.filter (fun p => inS key (key ++ [0]) false p.1) = ((a.get key).map fun v => (key, v)).toList := by
  have e : a.pairs.filter (fun p => inS key (key ++ [0]) false p.1) = a.pairs.filter (fun p => p.1 == key) := List.filter_congr fun p hp => point_in (AT.bytes ht p hp)
  rw [e, filter_point hr]
  unfold AT.get
  cases hf : a.pairs.find? (fun p => p.1 == key) with
  | none => rfl
  | some p =>
    have hk : p.1 = key := by simpa using List.find?_some hf
    rw [← hk]
    rfl
end Go.Proofs.Ytpjojhmdgeejmaa
