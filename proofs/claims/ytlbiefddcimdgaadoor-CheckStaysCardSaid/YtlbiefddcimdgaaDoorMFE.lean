/- Bytes, leaves and nodes that lie in new blocks alone. No program is named here. The heads of the statements of layer 8: the document's examples; whether a tree is small. A region that draws its order and whose last operation waits for all others: what the reads lean on need not hold behind that last one. No program is named here. The contracts of the parts of the program's proofs: a node that is shown, a dark one, a digest alone. The contracts of the program's withKids, by what it is handed. The contract of the program's proofs of balanced trees. The contract of the program's depth of full trees. The contract of the program's look whether keys rise. The contracts of the program's ascending and Is. The contracts of the program's Prove. -/
import Derived.Test.YtlbiefddcimdgaaDoorMFD
import Derived.Test.YtlbiefddcimdgaaDoorMAB
import Derived.Lib.SlBytesConst
import Derived.Test.YtlbiefddcimdgaaDoorMAA
import Derived.Laws.EntriesVeiled
import Derived.Test.YtlbiefddcimdgaaDoorMAC
/- Bytes, leaves and nodes that lie in new blocks alone. No program is named here. -/
namespace Go.Proofs.YtlbiefddcimdgaaDoor
open Go.RowKit
set_option linter.unusedVariables false

/-- Bytes in the blocks from lo up to hi, and nowhere else. -/
def FreshB (lo hi : Nat) (w : World) (a : Option Addr) (n c : Nat) (zs : List Int) : Prop := ∀ W : World, hi ≤ W.heap.size → (∀ j, lo ≤ j → j < hi → W.heap[j]? = w.heap[j]?) → InBytes W a n c zs
theorem FreshB.of {lo hi : Nat} {w : World} {a : Option Addr} {n c : Nat} {zs : List Int} (h : InBytes w a n c zs) (hp : ∀ y, a = some y → lo ≤ y.block ∧ y.block < hi) : FreshB lo hi w a n c zs := fun W h1 h2 =>
  ⟨h.len, h.bytes, h.le, h.max, h.nil, fun h0 => by
    obtain ⟨g, off, e, hlt, hc⟩ := h.place h0
    have q := hp _ e
    exact ⟨g, off, e, Nat.lt_of_lt_of_le q.2 h1, hc.keep fun o => World.cell?_of_block (a := ⟨g, o, none⟩) (h2 g q.1 q.2)⟩⟩
theorem FreshB.none (lo hi : Nat) (w : World) : FreshB lo hi w none 0 0 [] := fun W _ _ => none_in W
section
variable {lo hi lo' hi' : Nat} {w w' : World} {a : Option Addr} {n c : Nat} {zs : List Int}
theorem FreshB.below (f : FreshB lo hi w a n c zs) (hb : Below w.heap.size w w') (hs : hi ≤ w.heap.size) : FreshB lo hi w' a n c zs := fun W h1 h2 => f W h1 fun j hl hh => (h2 j hl hh).trans (hb.block j (by omega))
theorem FreshB.wide (f : FreshB lo hi w a n c zs) (h1 : lo' ≤ lo) (h2 : hi ≤ hi') : FreshB lo' hi' w a n c zs := fun W q1 q2 => f W (Nat.le_trans h2 q1) fun j hl hh => q2 j (by omega) (by omega)
theorem FreshB.agree (f : FreshB lo hi w a n c zs) (h1 : ∀ j, lo ≤ j → j < hi → w'.heap[j]? = w.heap[j]?) : FreshB lo hi w' a n c zs := fun W q1 q2 => f W q1 fun j hl hh => (q2 j hl hh).trans (h1 j hl hh)
/-- One block was written, that lies elsewhere. -/
theorem FreshB.grown {g : Nat} (f : FreshB lo hi w a n c zs) (hg : w.grownBy w' (some g)) (hs : hi ≤ w.heap.size) (hn : g < lo ∨ hi ≤ g) : FreshB lo hi w' a n c zs := f.agree fun j hl hh => hg.block j (by omega) (fun q => by injection q; omega)
theorem FreshT.grown {g : Nat} {h : TH} {t : Tr} (f : FreshT lo hi w h t) (hg : w.grownBy w' (some g)) (hs : hi ≤ w.heap.size) (hn : g < lo ∨ hi ≤ g) : FreshT lo hi w' h t := f.agree fun j hl hh => hg.block j (by omega) (fun q => by injection q; omega)
end
theorem FreshT.nil (lo hi : Nat) (w : World) : FreshT lo hi w hNil tNil := fun W _ _ => inTree_nil W
theorem FreshT.leaf {lo hi : Nat} {w : World} {k : Int} (hk1 : -9223372036854775808 ≤ k) (hk2 : k ≤ 9223372036854775807) {da : Option Addr} {dn dc : Nat} {dig : List Int} (d : FreshB lo hi w da dn dc dig) : FreshT lo hi w ⟨k, none, 0, 0, none, 0, 0, da, dn, dc, none, 0, 0⟩ (.mk k [] [] dig []) := fun W h1 h2 => inTree_leaf hk1 hk2 (d W h1 h2)
/-- A node over two such trees that lie side by side in block g. -/
theorem FreshT.node {lo hi g : Nat} {w : World} {ty : TypeId} {h1 h2 : TH} {c1 c2 : Tr} (hx : Two5 w ty g h1 h2) (hg1 : lo ≤ g) (hg2 : g < hi) (f1 : FreshT lo hi w h1 c1) (f2 : FreshT lo hi w h2 c2) {k : Int} (hk1 : -9223372036854775808 ≤ k) (hk2 : k ≤ 9223372036854775807)
    {ka va da : Option Addr} {kn kc vn vc dn dc : Nat} {key val dig : List Int} (bk : FreshB lo hi w ka kn kc key) (bv : FreshB lo hi w va vn vc val) (bd : FreshB lo hi w da dn dc dig) :
    FreshT lo hi w ⟨k, ka, kn, kc, va, vn, vc, da, dn, dc, some ⟨g, 0, none⟩, 2, 2⟩ (.mk k key val dig [c1, c2]) := fun W q1 q2 =>
  inTree_pair (ty := ty) ((q2 g hg1 hg2).trans hx) (f1 W q1 q2) (f2 W q1 q2) hk1 hk2 (bk W q1 q2) (bv W q1 q2) (bd W q1 q2)
end Go.Proofs.YtlbiefddcimdgaaDoor

/- The heads of the statements of layer 8: the document's examples; whether a tree is small. -/
namespace Go.Proofs.YtlbiefddcimdgaaDoor
open Go.RowKit
set_option linter.unusedVariables false

theorem check_nil8 : checkT tNil = 0 := by
  unfold checkT
  rw [deepT_eq, formedT_eq]
  rfl
theorem sum3_8 : (sumL [3]).take 1 = [8] := by decide +kernel
theorem up8_a : checkX 1 [8] [] [] true tNil = (0, []) := by
  have e : checkX ((1 : Nat) : Int) [8] [] [] true tNil = _ := checkX_ok (k := 1) (by omega) (by omega) rfl [] [] true tNil
  rw [show ((1 : Nat) : Int) = 1 from rfl] at e
  rw [e]
  unfold checkR
  rw [if_neg (by rw [check_nil8]; simp), digT_0 rfl, sum3_8]
  have ei : itemsT tNil = [] := itemsT_0 rfl
  simp only [ei, scanI, ne_eq, not_true_eq_false, if_false]
  rfl
def tCut8 : Tr := .mk 3 [] [] [255] []
theorem check_cut8 : checkT tCut8 = 0 := by
  unfold checkT
  rw [deepT_eq, formedT_eq]
  rfl
theorem up8_b : checkX 1 [255] [] [] true tCut8 = (8, []) := by
  have e : checkX ((1 : Nat) : Int) [255] [] [] true tCut8 = _ := checkX_ok (k := 1) (by omega) (by omega) rfl [] [] true tCut8
  rw [show ((1 : Nat) : Int) = 1 from rfl] at e
  rw [e]
  unfold checkR
  have ed : digT 1 tCut8 = some [255] := by
    have q : digT 1 tCut8 = if [(255 : Int)].length = 1 then some [255] else none := digT_3 rfl
    rw [q]
    rfl
  have ei : itemsT tCut8 = [⟨true, false, [], []⟩] := itemsT_3 rfl
  rw [if_neg (by rw [check_cut8]; simp), ed, ei]
  rfl
theorem count_none8 {kd : Int} {key v d : List Int} : countT (.mk kd key v d []) = 1 := by
  rw [countT_eq]
  rfl

set_option maxRecDepth 100000 in
set_option maxHeartbeats 8000000 in
theorem up8_any (w : World) (hT : TabLies w) : Calls Tryd.prog 9 #[] w (Says w (.bool true)) := by
  have heq : ∀ (W : World) (p q : Int), (binOp .eql 32 (.iface 56 (.int .i64 p)) (.iface 56 (.int .i64 q))).run Tryd.prog W = .ok (.bool (p == q)) W := fun W p q => eql_code p q W
  have hcd0 : codeV 0 = .nilIface := rfl
  have hcd8 : codeV 8 = .iface 56 (.int .i64 8) := rfl
  have HT := Lib.hid hT
  clear hT
  have hb1 : Below w.heap.size w (w.alloc (.cells #[.int .u8 8] 5)) := (Below.refl _ _).alloc (Nat.le_refl _) _
  have HB1 := Lib.hid hb1
  have HI1 : Hid (InBytes (w.alloc (.cells #[.int .u8 8] 5)) (some ⟨w.heap.size, 0, none⟩) 1 1 [8]) := Lib.hid (in_one (heap_alloc_new w (.cells #[.int .u8 8] 5)) (by omega) (by omega))
  clear hb1
  go_enter Tryd.func9, Tryd.ntmps9
  go_upto_region 2 with (first
    | (go_at_call 11
       refine (chk_any 1 (by omega) (by omega) (some ⟨w.heap.size, 0, none⟩) 1 1 [8] ⟨none, 0, 0, none, 0, 0, true⟩ [] [] tNil hNil _ HI1.out ⟨none_in _, none_in _⟩ (inTree_nil _) (by unfold tNil; rw [count_none8]; omega) (HT.out.below HB1.out (Nat.le_refl _))).mono ?_
       unfold ChkTold
       rw [up8_a]
       rintro _ w2 ⟨ra2, n2, c2, rs2, rfl, ho2, hrl2, hpv2, hb2⟩
       have e0 : codeV ((0, ([] : List KV)) : Nat × List KV).1 = .nilIface := rfl
       rw [e0]
       obtain rfl : n2 = 0 := by rw [← hrl2]; exact hpv2.1
       have HB2 : Hid (Below w.heap.size w w2) := Lib.hid (HB1.out.trans (hb2.mono HB1.out.size))
       clear ho2 hrl2 hpv2 hb2 e0))
  clear HI1
  have hb3 : Below w2.heap.size w2 ((w2.alloc (.cells #[.int .u8 255] 5)).alloc (.cells #[.int .u8 255] 5)) := ((Below.refl _ _).alloc (Nat.le_refl _) _).alloc (by simp) _
  have x1 : (w2.alloc (.cells #[.int .u8 255] 5)).heap[w2.heap.size]? = some (.cells #[.int .u8 255] 5 (0, 0)) := heap_alloc_new w2 _
  have HI3 : Hid (InBytes ((w2.alloc (.cells #[.int .u8 255] 5)).alloc (.cells #[.int .u8 255] 5)) (some ⟨w2.heap.size, 0, none⟩) 1 1 [255] ∧ InBytes ((w2.alloc (.cells #[.int .u8 255] 5)).alloc (.cells #[.int .u8 255] 5)) (some ⟨w2.heap.size + 1, 0, none⟩) 1 1 [255]) := Lib.hid ⟨(in_one x1 (by omega) (by omega)).below ((Below.refl _ _).alloc (Nat.le_refl _) _), by
    have q := heap_alloc_new (w2.alloc (.cells #[.int .u8 255] 5)) (.cells #[.int .u8 255] 5)
    rw [alloc_size] at q
    exact in_one q (by omega) (by omega)⟩
  have HB3 : Hid (Below w.heap.size w ((w2.alloc (.cells #[.int .u8 255] 5)).alloc (.cells #[.int .u8 255] 5))) := Lib.hid (HB2.out.trans (hb3.mono HB2.out.size))
  clear hb3 x1
  go_wp2_with (first
    | (go_at_call 11
       refine (chk_any 1 (by omega) (by omega) (some ⟨w2.heap.size, 0, none⟩) 1 1 [255] ⟨none, 0, 0, none, 0, 0, true⟩ [] [] tCut8 ⟨3, none, 0, 0, none, 0, 0, some ⟨w2.heap.size + 1, 0, none⟩, 1, 1, none, 0, 0⟩ _ HI3.out.1 ⟨none_in _, none_in _⟩ (inTree_leaf (by omega) (by omega) HI3.out.2) (by unfold tCut8; rw [count_none8]; omega) (HT.out.below HB3.out (Nat.le_refl _))).mono ?_
       unfold ChkTold
       rw [up8_b]
       rintro _ w4 ⟨ra4, n4, c4, rs4, rfl, ho4, hrl4, hpv4, hb4⟩
       have e0 : codeV ((8, ([] : List KV)) : Nat × List KV).1 = .iface 56 (.int .i64 8) := rfl
       rw [e0]
       have HB4 : Hid (Below w.heap.size w w4) := Lib.hid (HB3.out.trans (hb4.mono HB3.out.size))
       clear ho4 hrl4 hpv4 hb4 e0))
  go_ret
  exact ⟨rfl, HB4.out⟩

end Go.Proofs.YtlbiefddcimdgaaDoor

/- A region that draws its order and whose last operation waits for all others: what the reads lean on need not hold behind that last one. No program is named here. -/
namespace Go.Proofs.YtlbiefddcimdgaaDoor
open Go.RowKit
set_option linter.unusedVariables false

section
variable {P : Program} {md : Region.Mode} {ops : Array Oper} {Q : Exit → Act → World → Prop} {S : World → Prop} {f : Nat}
/-- Whatever order is picked: behind every operation but number f the world meets S. -/
def wpL (P : Program) (md : Region.Mode) (ops : Array Oper) (Q : Exit → Act → World → Prop) (S : World → Prop) (f : Nat) : Nat → Array Bool → Act → World → Prop
  | 0, l, a, w => Region.ready md ops l = [] ∧ Q .normal a w
  | n + 1, l, a, w => (Region.ready md ops l = [] → Q .normal a w) ∧ ∀ j ∈ Region.ready md ops l, wpOp P ops Q j (fun a' w' => (j ≠ f → S w') ∧ wpL P md ops Q S f n (l.setIfInBounds j true) a' w') a w
theorem wpL_any : ∀ (n : Nat) (l : Array Bool) (a : Act) (w : World), wpL P md ops Q S f n l a w → wpAny P md ops Q n l a w
  | 0, _, _, _, h => h
  | n + 1, _, _, _, h => ⟨h.1, fun j hj => wpOp_mono (fun a' w' q => wpL_any n _ a' w' q.2) (h.2 j hj)⟩
/-- Number f waits for number i. -/
def waits (md : Region.Mode) (ops : Array Oper) (f i : Nat) : Bool := match ops[f]? with
  | some o => o.after.any fun e => Region.binds md e && e.on == i
  | none => false
theorem waits_not {i : Nat} {l : Array Bool} (hw : waits md ops f i = true) (hi : i ∈ Region.ready md ops l) : f ∉ Region.ready md ops l := fun hf => by
  obtain ⟨_, o, ho, hall⟩ := mem_ready.1 hf
  have h0 := (mem_ready.1 hi).1
  unfold waits at hw
  rw [ho] at hw
  simp only [Array.any_eq_true'] at hw
  obtain ⟨e, he, hb⟩ := hw
  rw [Bool.and_eq_true, beq_iff_eq] at hb
  have h1 := hall e he hb.1
  rw [hb.2] at h1
  by_cases hlt : i < l.size
  · simp [hlt] at h0 h1
    rw [h0] at h1
    cases h1
  · simp [Array.getElem?_eq_none (Nat.le_of_not_lt hlt)] at h0
/-- What yields its value in every world that meets S, and for which number f waits, may be taken first. -/
theorem wpL_take_all {i : Nat} {oi : Oper} {v : Value} (hi : ops[i]? = some oi) (hsel : ∀ (j : Nat) (o : Oper) cs b, ops[j]? = some o → o.op ≠ .select cs b) (hQ : ∀ c a w, Q (.panic c) (a.put oi.dst v) w → Q (.panic c) a w) (hw : waits md ops f i = true) :
    ∀ (n : Nat) (l : Array Bool) (a : Act) (w : World), (∀ j oj, ops[j]? = some oj → j ≠ i → l.getD j true = false → (∀ e ∈ oj.after, Region.binds md e = true → e.on ≠ i) → oi.apart ops oj = true) →
      i ∈ Region.ready md ops l → YieldsIf P ops S oi v a → S w → wpL P md ops Q S f n (l.setIfInBounds i true) (a.put oi.dst v) w → wpL P md ops Q S f (n + 1) l a w := by
  intro n
  induction n with
  | zero =>
    intro l a w _ hr hy hS H
    refine ⟨fun e => absurd hr (by rw [e]; simp), fun j hj => ?_⟩
    by_cases hji : j = i
    · rw [hji]
      exact hy.wpOp hi hS ⟨fun _ => hS, H⟩
    · exact absurd (ready_mono hj hji) (by rw [H.1]; simp)
  | succ n ih =>
    intro l a w hfr hr hy hS H
    refine ⟨fun e => absurd hr (by rw [e]; simp), fun j hj => ?_⟩
    by_cases hji : j = i
    · rw [hji]
      exact hy.wpOp hi hS ⟨fun _ => hS, H⟩
    have hjf : j ≠ f := fun e => waits_not hw hr (e ▸ hj)
    obtain ⟨hun, oj, hoj, hall⟩ := mem_ready.1 hj
    have hno : ∀ e ∈ oj.after, Region.binds md e = true → e.on ≠ i := fun e he hb q => by
      have h1 := hall e he hb
      have h0 := (mem_ready.1 hr).1
      rw [q] at h1
      by_cases hlt : i < l.size
      · simp [hlt] at h0 h1
        rw [h0] at h1
        cases h1
      · simp [Array.getElem?_eq_none (Nat.le_of_not_lt hlt)] at h0
    have h2 := wpOp_putIf hoj (hfr j oj hoj hji hun hno) (fun cs b => hsel i oi cs b hi) (fun cs b => hsel j oj cs b hoj) hQ hy (H.2 j (ready_mono hj hji))
    refine wpOp_mono (fun a' w' q => ⟨q.2.1, ih _ a' w' (fun k ok hk hki hku hkn => hfr k ok hk hki ?_ hkn) (ready_mono hr (Ne.symm hji)) q.1 (q.2.1 hjf) ?_⟩) h2
    · by_cases hjk : j = k
      · rw [← hjk]
        exact hun
      · rw [getD_set_ne true hjk] at hku
        exact hku
    · rw [Array.setIfInBounds_comm _ _ hji]
      exact q.2.2
theorem take_l {i : Nat} {oi : Oper} {v : Value} {n : Nat} {l : Array Bool} {a : Act} {w : World} (hi : ops[i]? = some oi) (hs : Region.noSelect ops = true) (hf : Region.free md ops l i = true) (hr : (Region.ready md ops l).contains i = true) (hwt : waits md ops f i = true)
    (hQ : ∀ c a w, Q (.panic c) (a.put oi.dst v) w → Q (.panic c) a w) (hw : Region.wanted oi (yielded ops a.tmps) = true) (hy : ∀ w, S w → (execOp a.eval oi).run P w = .ok (.value v) w) (hS : S w)
    (h : wpL P md ops Q S f n (l.setIfInBounds i true) (a.put oi.dst v) w) : wpL P md ops Q S f (n + 1) l a w :=
  wpL_take_all hi (Region.noSelect_spec hs) hQ hwt n l a w (Region.free_spec hi hf) (by simpa using hr) (.inl ⟨hw, hy⟩) hS h
/-- The only one ready, not the last. -/
theorem one_l {i : Nat} {o : Oper} {n : Nat} {l : Array Bool} {a : Act} {w : World} (hr : Region.ready md ops l = [i]) (ho : ops[i]? = some o)
    (h : ∀ K' : Act → World → Prop, Shut (∀ a w, S w → (S w → wpL P md ops Q S f n (l.setIfInBounds i true) a w) → K' a w) → if Region.wanted o (yielded ops a.tmps) = true then Oper.wp P o a w K' Q else K' (a.put o.dst undef) w) : wpL P md ops Q S f (n + 1) l a w := by
  refine ⟨fun e => absurd (hr.symm.trans e) (by simp), fun j hj => ?_⟩
  rw [hr, List.mem_singleton] at hj
  subst hj
  exact wpOp_step ho fun K' hK => h K' fun a w h1 h2 => hK a w ⟨fun _ => h1, h2 h1⟩
/-- The last one. -/
theorem last_l {o : Oper} {n : Nat} {l : Array Bool} {a : Act} {w : World} (hr : Region.ready md ops l = [f]) (ho : ops[f]? = some o) (hd : Region.ready md ops (l.setIfInBounds f true) = [])
    (h : ∀ K' : Act → World → Prop, Shut (∀ a w, Q .normal a w → K' a w) → if Region.wanted o (yielded ops a.tmps) = true then Oper.wp P o a w K' Q else K' (a.put o.dst undef) w) : wpL P md ops Q S f (n + 1) l a w := by
  refine ⟨fun e => absurd (hr.symm.trans e) (by simp), fun j hj => ?_⟩
  rw [hr, List.mem_singleton] at hj
  subst hj
  refine wpOp_step ho fun K' hK => h K' fun a w h1 => hK a w ⟨fun q => absurd rfl q, ?_⟩
  cases n with
  | zero => exact ⟨hd, h1⟩
  | succ n => exact ⟨fun _ => h1, by rw [hd]; simp⟩
theorem region_l (f : Nat) {id : Nat} {a : Act} {w : World} (hm : P.follows .mixedOrders = true) (hS : S w.drew) (h : S w.drew → wpL P .any ops Q S f ops.size (Array.replicate ops.size false) a w.drew) : (Code.region id ops true).wp P Q a w :=
  wp_region_any hm (wpL_any _ _ _ _ (h hS))
end
end Go.Proofs.YtlbiefddcimdgaaDoor

/- The contracts of the parts of the program's proofs: a node that is shown, a dark one, a digest alone. -/
namespace Go.Proofs.YtlbiefddcimdgaaDoor
open Go.RowKit
set_option linter.unusedVariables false

/-- shown's boxes. -/
structure ZS (w W : World) (h : TH) : Prop where
  box : Box W 27 w.heap.size h
  res : Box W 27 (w.heap.size + 1) hZ
  b : Below w.heap.size w W
theorem ZS.below {w W W' : World} {h : TH} (d : ZS w W h) (hb : Below W.heap.size W W') : ZS w W' h := ⟨d.box.below hb d.box.lt, d.res.below hb d.res.lt, d.b.trans (hb.mono d.b.size)⟩
theorem ZS.drew {w W : World} {h : TH} (d : ZS w W h) : ZS w W.drew h := d.below (Below.refl _ _).drew
theorem ZS.sz {w W : World} {h : TH} (d : ZS w W h) : w.heap.size + 2 ≤ W.heap.size := d.res.lt
theorem ZS.enter (w : World) (h : TH) : ZS w ((w.alloc (.cells #[.int .i64 h.k, .slice h.ka h.kn h.kc, .slice h.va h.vn h.vc, .slice h.da h.dn h.dc, .slice h.ta h.tn h.tc] 27)).alloc (.cells #[.int .i64 0, .slice none 0 0, .slice none 0 0, .slice none 0 0, .slice none 0 0] 27)) h := ⟨(enter2 w h).1, (enter2 w h).2.1, (enter2 w h).2.2.1⟩
/-- A prover. -/
def prvV (k : Nat) (sp : DH) : Value := .agg #[.int .i64 k, .slice sp.ka sp.kn sp.kc, .slice sp.va sp.vn sp.vc, .bool sp.out]
/-- A method's boxes: the prover, the tree, the result. -/
structure ZD (w W : World) (k : Nat) (sp : DH) (h : TH) : Prop where
  pb : W.heap[w.heap.size]? = some (.cells #[.int .i64 k, .slice sp.ka sp.kn sp.kc, .slice sp.va sp.vn sp.vc, .bool sp.out] 93 (0, 0))
  box : Box W 27 (w.heap.size + 1) h
  res : Box W 27 (w.heap.size + 2) hZ
  b : Below w.heap.size w W
section
variable {w W W' : World} {k : Nat} {sp : DH} {h : TH}
theorem ZD.sz (d : ZD w W k sp h) : w.heap.size + 3 ≤ W.heap.size := d.res.lt
theorem ZD.below (d : ZD w W k sp h) (hb : Below W.heap.size W W') : ZD w W' k sp h := ⟨(hb.block _ (by have := d.sz; omega)).trans d.pb, d.box.below hb d.box.lt, d.res.below hb d.res.lt, d.b.trans (hb.mono d.b.size)⟩
theorem ZD.drew (d : ZD w W k sp h) : ZD w W.drew k sp h := d.below (Below.refl _ _).drew
theorem ZD.pcell (d : ZD w W k sp h) : W.cell? ⟨w.heap.size, 0, none⟩ = some (.int .i64 k) ∧ W.cell? ⟨w.heap.size, 1, none⟩ = some (.slice sp.ka sp.kn sp.kc) ∧ W.cell? ⟨w.heap.size, 2, none⟩ = some (.slice sp.va sp.vn sp.vc) ∧ W.cell? ⟨w.heap.size, 3, none⟩ = some (.bool sp.out) := by
  have h := d.pb
  refine ⟨?_, ?_, ?_, ?_⟩
  all_goals
    rw [cell_of_row W w.heap.size _ _ _ (0, 0) h]
    rfl
theorem ZD.enter (w : World) (k : Nat) (sp : DH) (h : TH) : ZD w (((w.alloc (.cells #[.int .i64 k, .slice sp.ka sp.kn sp.kc, .slice sp.va sp.vn sp.vc, .bool sp.out] 93)).alloc (.cells #[.int .i64 h.k, .slice h.ka h.kn h.kc, .slice h.va h.vn h.vc, .slice h.da h.dn h.dc, .slice h.ta h.tn h.tc] 27)).alloc (.cells #[.int .i64 0, .slice none 0 0, .slice none 0 0, .slice none 0 0, .slice none 0 0] 27)) k sp h := by
  have q1 : Below w.heap.size w (w.alloc (.cells #[.int .i64 k, .slice sp.ka sp.kn sp.kc, .slice sp.va sp.vn sp.vc, .bool sp.out] 93)) := (Below.refl _ _).alloc (Nat.le_refl _) _
  have x0 : (w.alloc (.cells #[.int .i64 k, .slice sp.ka sp.kn sp.kc, .slice sp.va sp.vn sp.vc, .bool sp.out] 93)).heap[w.heap.size]? = some (.cells #[.int .i64 k, .slice sp.ka sp.kn sp.kc, .slice sp.va sp.vn sp.vc, .bool sp.out] 93 (0, 0)) := heap_alloc_new w _
  have s1 : (w.alloc (.cells #[.int .i64 k, .slice sp.ka sp.kn sp.kc, .slice sp.va sp.vn sp.vc, .bool sp.out] 93)).heap.size = w.heap.size + 1 := by simp
  have x1 := Box.new (w.alloc (.cells #[.int .i64 k, .slice sp.ka sp.kn sp.kc, .slice sp.va sp.vn sp.vc, .bool sp.out] 93)) 27 h
  have s2 : ((w.alloc (.cells #[.int .i64 k, .slice sp.ka sp.kn sp.kc, .slice sp.va sp.vn sp.vc, .bool sp.out] 93)).alloc (.cells #[.int .i64 h.k, .slice h.ka h.kn h.kc, .slice h.va h.vn h.vc, .slice h.da h.dn h.dc, .slice h.ta h.tn h.tc] 27)).heap.size = w.heap.size + 2 := by simp
  have x2 := Box.new ((w.alloc (.cells #[.int .i64 k, .slice sp.ka sp.kn sp.kc, .slice sp.va sp.vn sp.vc, .bool sp.out] 93)).alloc (.cells #[.int .i64 h.k, .slice h.ka h.kn h.kc, .slice h.va h.vn h.vc, .slice h.da h.dn h.dc, .slice h.ta h.tn h.tc] 27)) 27 hZ
  have b1 : Below (w.alloc (.cells #[.int .i64 k, .slice sp.ka sp.kn sp.kc, .slice sp.va sp.vn sp.vc, .bool sp.out] 93)).heap.size (w.alloc (.cells #[.int .i64 k, .slice sp.ka sp.kn sp.kc, .slice sp.va sp.vn sp.vc, .bool sp.out] 93)) ((w.alloc (.cells #[.int .i64 k, .slice sp.ka sp.kn sp.kc, .slice sp.va sp.vn sp.vc, .bool sp.out] 93)).alloc (.cells #[.int .i64 h.k, .slice h.ka h.kn h.kc, .slice h.va h.vn h.vc, .slice h.da h.dn h.dc, .slice h.ta h.tn h.tc] 27)) := (Below.refl _ _).alloc (Nat.le_refl _) _
  have b2 : Below ((w.alloc (.cells #[.int .i64 k, .slice sp.ka sp.kn sp.kc, .slice sp.va sp.vn sp.vc, .bool sp.out] 93)).alloc (.cells #[.int .i64 h.k, .slice h.ka h.kn h.kc, .slice h.va h.vn h.vc, .slice h.da h.dn h.dc, .slice h.ta h.tn h.tc] 27)).heap.size ((w.alloc (.cells #[.int .i64 k, .slice sp.ka sp.kn sp.kc, .slice sp.va sp.vn sp.vc, .bool sp.out] 93)).alloc (.cells #[.int .i64 h.k, .slice h.ka h.kn h.kc, .slice h.va h.vn h.vc, .slice h.da h.dn h.dc, .slice h.ta h.tn h.tc] 27)) (((w.alloc (.cells #[.int .i64 k, .slice sp.ka sp.kn sp.kc, .slice sp.va sp.vn sp.vc, .bool sp.out] 93)).alloc (.cells #[.int .i64 h.k, .slice h.ka h.kn h.kc, .slice h.va h.vn h.vc, .slice h.da h.dn h.dc, .slice h.ta h.tn h.tc] 27)).alloc (.cells #[.int .i64 0, .slice none 0 0, .slice none 0 0, .slice none 0 0, .slice none 0 0] 27)) := (Below.refl _ _).alloc (Nat.le_refl _) _
  rw [s1] at x1
  rw [s2] at x2
  have l0 : w.heap.size < (w.alloc (.cells #[.int .i64 k, .slice sp.ka sp.kn sp.kc, .slice sp.va sp.vn sp.vc, .bool sp.out] 93)).heap.size := by rw [s1]; omega
  have l1 : w.heap.size < ((w.alloc (.cells #[.int .i64 k, .slice sp.ka sp.kn sp.kc, .slice sp.va sp.vn sp.vc, .bool sp.out] 93)).alloc (.cells #[.int .i64 h.k, .slice h.ka h.kn h.kc, .slice h.va h.vn h.vc, .slice h.da h.dn h.dc, .slice h.ta h.tn h.tc] 27)).heap.size := by rw [s2]; omega
  exact ⟨(b2.block _ l1).trans ((b1.block _ l0).trans x0), x1.below b2 x1.lt, x2, (q1.trans (b1.mono (by rw [s1]; omega))).trans (b2.mono (by rw [s2]; omega))⟩
/-- The result was written: the other boxes stay. -/
theorem ZD.wrote (d : ZD w W k sp h) (hg : W.grownBy W' (some (w.heap.size + 2))) : W'.heap[w.heap.size]? = some (.cells #[.int .i64 k, .slice sp.ka sp.kn sp.kc, .slice sp.va sp.vn sp.vc, .bool sp.out] 93 (0, 0)) ∧ Box W' 27 (w.heap.size + 1) h ∧ Below w.heap.size w W' :=
  ⟨(hg.block _ (by have := d.sz; omega) (fun q => by injection q with q; omega)).trans d.pb, d.box.grown hg (fun q => by injection q with q; omega), d.b.grown hg d.b.size (fun j hj => by injection hj; omega)⟩
end
/-- A node that is shown, without kids. -/
def ShownPost (w : World) (key val : List Int) (e : Ending) (w' : World) : Prop := ∃ a1 c1 a2 c2, e = .returned (TH.v ⟨1, a1, key.length, c1, a2, val.length, c2, none, 0, 0, none, 0, 0⟩) ∧ FreshB w.heap.size w'.heap.size w' a1 key.length c1 key ∧ FreshB w.heap.size w'.heap.size w' a2 val.length c2 val ∧ Below w.heap.size w w'
/-- A dark node, without kids. -/
def DarkPost (w : World) (k : Nat) (key dig : List Int) (e : Ending) (w' : World) : Prop := ∃ a1 c1 a2 c2, e = .returned (.tuple #[TH.v ⟨2, a1, key.length, c1, none, 0, 0, a2, k, c2, none, 0, 0⟩, .nilIface]) ∧ FreshB w.heap.size w'.heap.size w' a1 key.length c1 key ∧ FreshB w.heap.size w'.heap.size w' a2 k c2 dig ∧ Below w.heap.size w w'
theorem AT.checked {a : AT} (hl : Lim a.pairs) (hd : a.depth ≤ 64) : checkT a.tr = 0 := by
  unfold checkT
  rw [AT.tr_deep a 64 (by omega), (AT.tr_formed a).2 hl]
  have e : decide ((64 : Int) < (a.depth : Int)) = false := by simp; omega
  rw [e]
  rfl

set_option maxRecDepth 100000 in
set_option maxHeartbeats 4000000 in
theorem shown_any (t : Tr) (h : TH) (w : World) (ht : InTree w h t) (hkn : h.kn ≤ 3000) (hvn : h.vn ≤ 3000) : Calls Tryd.prog 78 #[h.v] w (ShownPost w t.key t.val) := by
  unfold TH.v
  obtain ⟨H, hp⟩ := ht.parts
  have HP := Lib.hid hp
  have HD := Lib.hid (ZS.enter w h)
  clear hp ht
  go_enter Tryd.func78, Tryd.ntmps78
  go_upto_region 1 with fail
  generalize ((w.alloc (.cells #[.int .i64 h.k, .slice h.ka h.kn h.kc, .slice h.va h.vn h.vc, .slice h.da h.dn h.dc, .slice h.ta h.tn h.tc] 27)).alloc (.cells #[.int .i64 0, .slice none 0 0, .slice none 0 0, .slice none 0 0, .slice none 0 0] 27)) = w0 at *
  have HD0 := Lib.hid HD.out.drew
  refine region_l (S := (fun W => W.cell? ⟨w.heap.size, 1, none⟩ = some (.slice h.ka h.kn h.kc) ∧ W.cell? ⟨w.heap.size, 2, none⟩ = some (.slice h.va h.vn h.vc))) 7 (by kernel_rfl) (by first | exact ⟨HD0.out.box.cells.2.1, HD0.out.box.cells.2.2.1⟩) (fun hHeld => ?_)
  refine take_l (i := 0) (oi := ?oZ1) (v := ?vZ1) ?hiZ1 (by kernel_rfl) (by kernel_rfl) (by kernel_rfl) (by kernel_rfl) ?hQZ1 ?hwZ1 ?hyZ1 (by assumption) ?restZ1
  case hiZ1 => (simp only [List.getElem?_toArray, List.getElem?_cons_zero] <;> rfl)
  case hQZ1 => exact (fun _ _ _ h => h)
  case hwZ1 => rfl
  case hyZ1 => (intro w hSw; (try dsimp only at hSw); go_simp; try with_reducible rfl)
  (try simp only [Act.put, List.setIfInBounds_toArray, List.set_cons_zero, List.set_cons_succ])
  refine take_l (i := 1) (oi := ?oZ2) (v := ?vZ2) ?hiZ2 (by kernel_rfl) (by kernel_rfl) (by kernel_rfl) (by kernel_rfl) ?hQZ2 ?hwZ2 ?hyZ2 (by assumption) ?restZ2
  case hiZ2 => (simp only [List.getElem?_toArray, List.getElem?_cons_succ, List.getElem?_cons_zero] <;> rfl)
  case hQZ2 => exact (fun _ _ _ h => h)
  case hwZ2 => rfl
  case hyZ2 => (intro w hSw; (try dsimp only at hSw); go_simp; try with_reducible rfl)
  (try simp only [Act.put, List.setIfInBounds_toArray, List.set_cons_zero, List.set_cons_succ])
  refine take_l (i := 3) (oi := ?oZ3) (v := ?vZ3) ?hiZ3 (by kernel_rfl) (by kernel_rfl) (by kernel_rfl) (by kernel_rfl) ?hQZ3 ?hwZ3 ?hyZ3 (by assumption) ?restZ3
  case hiZ3 => (simp only [List.getElem?_toArray, List.getElem?_cons_succ, List.getElem?_cons_zero] <;> rfl)
  case hQZ3 => exact (fun _ _ _ h => h)
  case hwZ3 => rfl
  case hyZ3 => (intro w hSw; (try dsimp only at hSw); go_simp; try with_reducible rfl)
  (try simp only [Act.put, List.setIfInBounds_toArray, List.set_cons_zero, List.set_cons_succ])
  refine take_l (i := 4) (oi := ?oZ4) (v := ?vZ4) ?hiZ4 (by kernel_rfl) (by kernel_rfl) (by kernel_rfl) (by kernel_rfl) ?hQZ4 ?hwZ4 ?hyZ4 (by assumption) ?restZ4
  case hiZ4 => (simp only [List.getElem?_toArray, List.getElem?_cons_succ, List.getElem?_cons_zero] <;> rfl)
  case hQZ4 => exact (fun _ _ _ h => h)
  case hwZ4 => rfl
  case hyZ4 => (intro w hSw; (try dsimp only at hSw); go_simp; try with_reducible rfl)
  (try simp only [Act.put, List.setIfInBounds_toArray, List.set_cons_zero, List.set_cons_succ])
  refine one_l (i := 2) (o := ?oZ5) (by kernel_rfl) ?hiZ5 (fun K hK => ?stZ5)
  case hiZ5 => (simp only [List.getElem?_toArray, List.getElem?_cons_succ, List.getElem?_cons_zero] <;> rfl)
  go_simp
  go_at_call 45
  (with_reducible refine (clone_any h.ka h.kn h.kc t.key _ ?_ (by omega)).mono ?_)
  · exact HP.out.key.below HD0.out.b
  rintro _ w1 ⟨a1, c1, rfl, hi1, hp1, hb1⟩
  have HD1 := Lib.hid (HD0.out.below hb1)
  have HK1 : Hid (FreshB (w.heap.size + 2) w1.heap.size w1 a1 t.key.length c1 t.key) := Lib.hid (FreshB.of hi1 (fun y e => ⟨Nat.le_trans HD0.out.sz (hp1 y e).1, (hp1 y e).2⟩))
  clear hi1 hp1 hb1
  go_simp
  refine hK.out _ _ ?_ (fun hHeld => ?_)
  · (first | exact ⟨HD2.out.box.cells.2.1, HD2.out.box.cells.2.2.1⟩ | exact ⟨HD1.out.box.cells.2.1, HD1.out.box.cells.2.2.1⟩ | exact ⟨HD0.out.box.cells.2.1, HD0.out.box.cells.2.2.1⟩)
  clear hK K
  (try simp only [Act.put, List.setIfInBounds_toArray, List.set_cons_zero, List.set_cons_succ])
  refine one_l (i := 5) (o := ?oZ6) (by kernel_rfl) ?hiZ6 (fun K hK => ?stZ6)
  case hiZ6 => (simp only [List.getElem?_toArray, List.getElem?_cons_succ, List.getElem?_cons_zero] <;> rfl)
  go_simp
  go_at_call 45
  (with_reducible refine (clone_any h.va h.vn h.vc t.val _ ?_ (by omega)).mono ?_)
  · exact HP.out.val.below HD1.out.b
  rintro _ w2 ⟨a2, c2, rfl, hi2, hp2, hb2⟩
  have HD2 := Lib.hid (HD1.out.below hb2)
  have HK2 : Hid (FreshB (w.heap.size + 2) w2.heap.size w2 a1 t.key.length c1 t.key) := Lib.hid ((HK1.out.below hb2 (Nat.le_refl _)).wide (Nat.le_refl _) hb2.size)
  have HV2 : Hid (FreshB (w.heap.size + 2) w2.heap.size w2 a2 t.val.length c2 t.val) := Lib.hid (FreshB.of hi2 (fun y e => ⟨Nat.le_trans HD1.out.sz (hp2 y e).1, (hp2 y e).2⟩))
  clear hi2 hp2 hb2
  go_simp
  refine hK.out _ _ ?_ (fun hHeld => ?_)
  · (first | exact ⟨HD2.out.box.cells.2.1, HD2.out.box.cells.2.2.1⟩ | exact ⟨HD1.out.box.cells.2.1, HD1.out.box.cells.2.2.1⟩ | exact ⟨HD0.out.box.cells.2.1, HD0.out.box.cells.2.2.1⟩)
  clear hK K
  (try simp only [Act.put, List.setIfInBounds_toArray, List.set_cons_zero, List.set_cons_succ])
  refine take_l (i := 6) (oi := ?oZ7) (v := ?vZ7) ?hiZ7 (by kernel_rfl) (by kernel_rfl) (by kernel_rfl) (by kernel_rfl) ?hQZ7 ?hwZ7 ?hyZ7 (by assumption) ?restZ7
  case hiZ7 => (simp only [List.getElem?_toArray, List.getElem?_cons_succ, List.getElem?_cons_zero] <;> rfl)
  case hQZ7 => exact (fun _ _ _ h => h)
  case hwZ7 => rfl
  case hyZ7 => (intro w hSw; (try dsimp only at hSw); go_simp; try with_reducible rfl)
  (try simp only [Act.put, List.setIfInBounds_toArray, List.set_cons_zero, List.set_cons_succ])
  refine last_l (o := ?oZ8) (by kernel_rfl) ?hiZ8 (by kernel_rfl) (fun K hK => ?stZ8)
  case hiZ8 => (simp only [List.getElem?_toArray, List.getElem?_cons_succ, List.getElem?_cons_zero] <;> rfl)
  refine step_store_box rfl 27 (.tmp 2) (.tmp 9) rfl (w.heap.size + 1) hZ ⟨1, a1, t.key.length, c1, a2, t.val.length, c2, none, 0, 0, none, 0, 0⟩ rfl rfl 27 HD2.out.res infoTree5 ?_
  intro w9 hbx9 hg9
  have HX9 := Lib.hid hbx9
  have HK9 : Hid (FreshB w.heap.size w9.heap.size w9 a1 t.key.length c1 t.key) := Lib.hid ((HK2.out.grown hg9 (Nat.le_refl _) (.inl (Nat.lt_succ_self _))).wide (Nat.le_add_right _ _) hg9.size)
  have HV9 : Hid (FreshB w.heap.size w9.heap.size w9 a2 t.val.length c2 t.val) := Lib.hid ((HV2.out.grown hg9 (Nat.le_refl _) (.inl (Nat.lt_succ_self _))).wide (Nat.le_add_right _ _) hg9.size)
  have HB9 : Hid (Below w.heap.size w w9) := Lib.hid (HD2.out.b.grown hg9 HD2.out.b.size (fun j hj => by injection hj; omega))
  clear hbx9 hg9
  refine hK.out _ _ ?_
  clear hK K
  (try simp only [Act.put])
  
  go_wp2_with fail
  exact bodyPost_ret (v := TH.v ⟨1, a1, t.key.length, c1, a2, t.val.length, c2, none, 0, 0, none, 0, 0⟩) (result_tree Tryd.results78 _ HX9.out rfl Tryd.underlying27 infoTree5) rfl ⟨a1, c1, a2, c2, rfl, HK9.out, HV9.out, HB9.out⟩

set_option maxRecDepth 100000 in
set_option maxHeartbeats 4000000 in
theorem dark_any (k : Nat) (hk1 : 1 ≤ k) (hk2 : k ≤ 32) (sp : DH) (t : Tr) (h : TH) (w : World) (ht : InTree w h t) (hT : TabLies w) (hkn : h.kn ≤ 3000) (hvn : h.vn ≤ 3000) : Calls Tryd.prog 79 #[prvV k sp, h.v] w (DarkPost w k t.key (dvL k t.val)) := by
  unfold TH.v prvV
  obtain ⟨H, hp⟩ := ht.parts
  have HP := Lib.hid hp
  have HVL := Lib.hid hp.val.len
  have HD := Lib.hid (ZD.enter w k sp h)
  have HTT := Lib.hid hT
  clear hp ht hT
  go_enter Tryd.func79, Tryd.ntmps79
  go_upto_region 1 with fail
  generalize (((w.alloc (.cells #[.int .i64 k, .slice sp.ka sp.kn sp.kc, .slice sp.va sp.vn sp.vc, .bool sp.out] 93)).alloc (.cells #[.int .i64 h.k, .slice h.ka h.kn h.kc, .slice h.va h.vn h.vc, .slice h.da h.dn h.dc, .slice h.ta h.tn h.tc] 27)).alloc (.cells #[.int .i64 0, .slice none 0 0, .slice none 0 0, .slice none 0 0, .slice none 0 0] 27)) = w0 at *
  have HD0 := Lib.hid HD.out.drew
  have HT0 : Hid (TabLies w0.drew) := Lib.hid (HTT.out.below HD0.out.b (Nat.le_refl _))
  refine wp_region_held_drew (S := (fun W => W.cell? ⟨w.heap.size, 0, none⟩ = some (.int .i64 k) ∧ W.cell? ⟨w.heap.size + 1, 2, none⟩ = some (.slice h.va h.vn h.vc))) (by kernel_rfl) (by first | exact ⟨HD0.out.pcell.1, HD0.out.box.cells.2.2.1⟩) (fun hHeld => ?_)
  refine take_w (i := 0) (oi := ?oZ9) (v := ?vZ9) ?hiZ9 (by kernel_rfl) (by kernel_rfl) (by kernel_rfl) ?hQZ9 ?hwZ9 ?hyZ9 (by assumption) ?restZ9
  case hiZ9 => (simp only [List.getElem?_toArray, List.getElem?_cons_zero] <;> rfl)
  case hQZ9 => exact (fun _ _ _ h => h)
  case hwZ9 => rfl
  case hyZ9 => (intro w hSw; (try dsimp only at hSw); go_simp; try with_reducible rfl)
  (try simp only [Act.put, List.setIfInBounds_toArray, List.set_cons_zero, List.set_cons_succ])
  refine take_w (i := 1) (oi := ?oZ10) (v := ?vZ10) ?hiZ10 (by kernel_rfl) (by kernel_rfl) (by kernel_rfl) ?hQZ10 ?hwZ10 ?hyZ10 (by assumption) ?restZ10
  case hiZ10 => (simp only [List.getElem?_toArray, List.getElem?_cons_succ, List.getElem?_cons_zero] <;> rfl)
  case hQZ10 => exact (fun _ _ _ h => h)
  case hwZ10 => rfl
  case hyZ10 => (intro w hSw; (try dsimp only at hSw); go_simp; try with_reducible rfl)
  (try simp only [Act.put, List.setIfInBounds_toArray, List.set_cons_zero, List.set_cons_succ])
  refine take_w (i := 2) (oi := ?oZ11) (v := ?vZ11) ?hiZ11 (by kernel_rfl) (by kernel_rfl) (by kernel_rfl) ?hQZ11 ?hwZ11 ?hyZ11 (by assumption) ?restZ11
  case hiZ11 => (simp only [List.getElem?_toArray, List.getElem?_cons_succ, List.getElem?_cons_zero] <;> rfl)
  case hQZ11 => exact (fun _ _ _ h => h)
  case hwZ11 => rfl
  case hyZ11 => (intro w hSw; (try dsimp only at hSw); go_simp; try with_reducible rfl)
  (try simp only [Act.put, List.setIfInBounds_toArray, List.set_cons_zero, List.set_cons_succ])
  refine take_w (i := 3) (oi := ?oZ12) (v := ?vZ12) ?hiZ12 (by kernel_rfl) (by kernel_rfl) (by kernel_rfl) ?hQZ12 ?hwZ12 ?hyZ12 (by assumption) ?restZ12
  case hiZ12 => (simp only [List.getElem?_toArray, List.getElem?_cons_succ, List.getElem?_cons_zero] <;> rfl)
  case hQZ12 => exact (fun _ _ _ h => h)
  case hwZ12 => rfl
  case hyZ12 => (intro w hSw; (try dsimp only at hSw); go_simp; try with_reducible rfl)
  (try simp only [Act.put, List.setIfInBounds_toArray, List.set_cons_zero, List.set_cons_succ])
  refine wpAnyH_ready (rs := [4]) (by kernel_rfl) (by simp) ?_
  refine AllReadyH.cons (o := ?oZ13) ?hiZ13 (fun K hK => ?stZ13) AllReadyH.nil
  case hiZ13 => (simp only [List.getElem?_toArray, List.getElem?_cons_succ, List.getElem?_cons_zero] <;> rfl)
  go_simp
  go_at_call 70
  (with_reducible refine (value_any h.va h.vn h.vc t.val _ ?_ (by omega)).mono ?_)
  · exact HP.out.val.below HD0.out.b
  rintro _ w1 ⟨g1, c1, rfl, ho1, hb1⟩
  have HD1 := Lib.hid (HD0.out.below hb1)
  have HT1 := Lib.hid (HT0.out.below hb1 (Nat.le_refl _))
  have HI1 := Lib.hid (InBytes.of_own ho1 (valL_bytes HP.out.val.bytes))
  clear ho1 hb1
  go_simp
  refine hK.out _ _ ?_ (fun hHeld => ?_)
  · (first | exact ⟨HD2.out.pcell.1, HD2.out.box.cells.2.2.1⟩ | exact ⟨HD1.out.pcell.1, HD1.out.box.cells.2.2.1⟩ | exact ⟨HD0.out.pcell.1, HD0.out.box.cells.2.2.1⟩)
  clear hK K
  (try simp only [Act.put, List.setIfInBounds_toArray, List.set_cons_zero, List.set_cons_succ])
  refine wpAnyH_ready (rs := [5]) (by kernel_rfl) (by simp) ?_
  refine AllReadyH.cons (o := ?oZ14) ?hiZ14 (fun K hK => ?stZ14) AllReadyH.nil
  case hiZ14 => (simp only [List.getElem?_toArray, List.getElem?_cons_succ, List.getElem?_cons_zero] <;> rfl)
  go_simp
  go_at_call 43
  (with_reducible refine (of_ok k (some ⟨g1, 0, none⟩) (valL t.val).length c1 (valL t.val) _ HI1.out ?_ HT1.out hk1 hk2).mono ?_)
  · rw [valL_len, HVL.out]; omega
  rintro _ w2 ⟨g2, hg2, rfl, hr2, hb2⟩
  have HD2 := Lib.hid (HD1.out.below hb2)
  have HI2 : Hid (FreshB (w.heap.size + 3) w2.heap.size w2 (some ⟨g2, 0, none⟩) k k (dvL k t.val)) := Lib.hid (by
    have q := of_in hr2 hk2
    refine FreshB.of q (fun y e => ?_)
    injection e with e
    subst e
    obtain ⟨g, off, e2, hlt, -⟩ := q.place (by omega)
    injection e2 with e2
    injection e2 with e2 e3
    subst e2
    exact ⟨Nat.le_trans HD1.out.sz hg2, hlt⟩)
  clear hg2 hr2 hb2
  go_simp
  refine hK.out _ _ ?_ (fun hHeld => ?_)
  · (first | exact ⟨HD2.out.pcell.1, HD2.out.box.cells.2.2.1⟩ | exact ⟨HD1.out.pcell.1, HD1.out.box.cells.2.2.1⟩ | exact ⟨HD0.out.pcell.1, HD0.out.box.cells.2.2.1⟩)
  clear hK K
  (try simp only [Act.put, List.setIfInBounds_toArray, List.set_cons_zero, List.set_cons_succ])
  refine take_w (i := 6) (oi := ?oZ15) (v := ?vZ15) ?hiZ15 (by kernel_rfl) (by kernel_rfl) (by kernel_rfl) ?hQZ15 ?hwZ15 ?hyZ15 (by assumption) ?restZ15
  case hiZ15 => (simp only [List.getElem?_toArray, List.getElem?_cons_succ, List.getElem?_cons_zero] <;> rfl)
  case hQZ15 => exact (fun _ _ _ h => h)
  case hwZ15 => rfl
  case hyZ15 => (intro w hSw; (try dsimp only at hSw); go_simp; try with_reducible rfl)
  (try simp only [Act.put, List.setIfInBounds_toArray, List.set_cons_zero, List.set_cons_succ])
  refine take_w (i := 7) (oi := ?oZ16) (v := ?vZ16) ?hiZ16 (by kernel_rfl) (by kernel_rfl) (by kernel_rfl) ?hQZ16 ?hwZ16 ?hyZ16 (by assumption) ?restZ16
  case hiZ16 => (simp only [List.getElem?_toArray, List.getElem?_cons_succ, List.getElem?_cons_zero] <;> rfl)
  case hQZ16 => exact (fun _ _ _ h => h)
  case hwZ16 => rfl
  case hyZ16 => (intro w hSw; (try dsimp only at hSw); go_simp; try with_reducible rfl)
  (try simp only [Act.put, List.setIfInBounds_toArray, List.set_cons_zero, List.set_cons_succ])
  refine take_w (i := 8) (oi := ?oZ17) (v := ?vZ17) ?hiZ17 (by kernel_rfl) (by kernel_rfl) (by kernel_rfl) ?hQZ17 ?hwZ17 ?hyZ17 (by assumption) ?restZ17
  case hiZ17 => (simp only [List.getElem?_toArray, List.getElem?_cons_succ, List.getElem?_cons_zero] <;> rfl)
  case hQZ17 => exact (fun _ _ _ h => h)
  case hwZ17 => rfl
  case hyZ17 => (intro w hSw; (try dsimp only at hSw); go_simp; try with_reducible rfl)
  (try simp only [Act.put, List.setIfInBounds_toArray, List.set_cons_zero, List.set_cons_succ])
  refine take_w (i := 9) (oi := ?oZ18) (v := ?vZ18) ?hiZ18 (by kernel_rfl) (by kernel_rfl) (by kernel_rfl) ?hQZ18 ?hwZ18 ?hyZ18 (by assumption) ?restZ18
  case hiZ18 => (simp only [List.getElem?_toArray, List.getElem?_cons_succ, List.getElem?_cons_zero] <;> rfl)
  case hQZ18 => exact (fun _ _ _ h => h)
  case hwZ18 => rfl
  case hyZ18 => (intro w hSw; (try dsimp only at hSw); go_simp; try with_reducible rfl)
  (try simp only [Act.put, List.setIfInBounds_toArray, List.set_cons_zero, List.set_cons_succ])
  refine take_w (i := 10) (oi := ?oZ19) (v := ?vZ19) ?hiZ19 (by kernel_rfl) (by kernel_rfl) (by kernel_rfl) ?hQZ19 ?hwZ19 ?hyZ19 (by assumption) ?restZ19
  case hiZ19 => (simp only [List.getElem?_toArray, List.getElem?_cons_succ, List.getElem?_cons_zero] <;> rfl)
  case hQZ19 => exact (fun _ _ _ h => h)
  case hwZ19 => rfl
  case hyZ19 => (intro w hSw; (try dsimp only at hSw); go_simp; try with_reducible rfl)
  (try simp only [Act.put, List.setIfInBounds_toArray, List.set_cons_zero, List.set_cons_succ])
  refine wpAnyH_done (by kernel_rfl) ?_ _
  clear hHeld
  obtain ⟨x0, x1, x2, x3, x4⟩ := HD2.out.box.cells
  go_wp2_with (first
    | (go_at_call 45
       (with_reducible refine (clone_any h.ka h.kn h.kc t.key _ ?_ (by omega)).mono ?_)
       · exact HP.out.key.below HD2.out.b
       rintro _ w3 ⟨a3, c3, rfl, hi3, hp3, hb3⟩
       have HD3 := Lib.hid (HD2.out.below hb3)
       have HK3 : Hid (FreshB (w.heap.size + 3) w3.heap.size w3 a3 t.key.length c3 t.key) := Lib.hid (FreshB.of hi3 (fun y e => ⟨Nat.le_trans HD2.out.sz (hp3 y e).1, (hp3 y e).2⟩))
       have HI3 : Hid (FreshB (w.heap.size + 3) w3.heap.size w3 (some ⟨g2, 0, none⟩) k k (dvL k t.val)) := Lib.hid ((HI2.out.below hb3 (Nat.le_refl _)).wide (Nat.le_refl _) hb3.size)
       clear hi3 hp3 hb3)
    | (refine wpList_store_box rfl 27 (.tmp 4) (.tmp 25) rfl (w.heap.size + 2) hZ ⟨2, a3, t.key.length, c3, none, 0, 0, some ⟨g2, 0, none⟩, k, k, none, 0, 0⟩ rfl rfl 27 HD3.out.res infoTree5 ?_
       intro w9 hbx9 hg9
       have HX9 := Lib.hid hbx9
       have HK9 : Hid (FreshB w.heap.size w9.heap.size w9 a3 t.key.length c3 t.key) := Lib.hid ((HK3.out.grown hg9 (Nat.le_refl _) (.inl (Nat.lt_succ_self _))).wide (Nat.le_add_right _ _) hg9.size)
       have HI9 : Hid (FreshB w.heap.size w9.heap.size w9 (some ⟨g2, 0, none⟩) k k (dvL k t.val)) := Lib.hid ((HI3.out.grown hg9 (Nat.le_refl _) (.inl (Nat.lt_succ_self _))).wide (Nat.le_add_right _ _) hg9.size)
       have HB9 := Lib.hid (HD3.out.wrote hg9).2.2
       clear hbx9 hg9))
  exact bodyPost_ret (Box.result Tryd.results79 _ HX9.out rfl Tryd.underlying27 infoTree5) rfl ⟨a3, c3, _, _, rfl, HK9.out, HI9.out, HB9.out⟩

set_option maxRecDepth 100000 in
set_option maxHeartbeats 4000000 in
theorem cut_any7 (k : Nat) (hk1 : 1 ≤ k) (hk2 : k ≤ 32) (sp : DH) (a : AT) (h : TH) (w : World) (ht : InTree w h a.tr) (hT : TabLies w) (hl : Lim a.pairs) (hd : a.depth ≤ 64) : Calls Tryd.prog 80 #[prvV k sp, h.v] w (ProveOk w (hideA k a)) := by
  unfold TH.v prvV
  have HD := Lib.hid (ZD.enter w k sp h)
  obtain ⟨H, hp⟩ := ht.parts
  have HKK := Lib.hid hp.hk
  have HT := Lib.hid ht
  have HTT := Lib.hid hT
  have HC := Lib.hid (AT.checked hl hd)
  clear hp ht hl hT hd
  go_enter Tryd.func80, Tryd.ntmps80
  go_upto_region 1 with fail
  generalize (((w.alloc (.cells #[.int .i64 k, .slice sp.ka sp.kn sp.kc, .slice sp.va sp.vn sp.vc, .bool sp.out] 93)).alloc (.cells #[.int .i64 h.k, .slice h.ka h.kn h.kc, .slice h.va h.vn h.vc, .slice h.da h.dn h.dc, .slice h.ta h.tn h.tc] 27)).alloc (.cells #[.int .i64 0, .slice none 0 0, .slice none 0 0, .slice none 0 0, .slice none 0 0] 27)) = w0 at *
  obtain ⟨x0, x1, x2, x3, x4⟩ := HD.out.box.cells
  obtain ⟨y0, y1, y2, y3⟩ := HD.out.pcell
  cases a with
  | nil =>
    have e0 : (h.k == 0) = true := by rw [HKK.out]; rfl
    go_wp2_with (first
      | (refine wpList_store_box rfl 27 (.tmp 4) (.tmp 11) rfl (w.heap.size + 2) hZ hZ rfl rfl 27 HD.out.res infoTree5 ?_
         intro w9 hbx9 hg9
         have HX9 := Lib.hid hbx9
         have HB9 := Lib.hid (HD.out.wrote hg9).2.2
         clear hbx9 hg9))
    exact bodyPost_ret (Box.result Tryd.results80 _ HX9.out rfl Tryd.underlying27 infoTree5) rfl ⟨hZ, rfl, FreshT.nil _ _ _, HB9.out⟩
  | node l key v r =>
    have e0 : (h.k == 0) = false := by rw [HKK.out]; rfl
    go_wp2_with (first
      | (go_at_call 16
         refine (digest_ok k hk1 hk2 (AT.node l key v r).tr h _ (HT.out.lower HD.out.b) (HTT.out.below HD.out.b (Nat.le_refl _)) HC.out (AT.digs hk2 _)).mono ?_
         rintro _ w4 ⟨a4, c4, rfl, hn4, hb4⟩
         have HD4 := Lib.hid (HD.out.below hb4)
         have HI4 : Hid (FreshB (w.heap.size + 3) w4.heap.size w4 a4 (digA k (AT.node l key v r)).length c4 (digA k (AT.node l key v r))) := Lib.hid (by
           refine FreshB.of hn4.inb (fun y e => ⟨Nat.le_trans HD.out.sz (hn4.new y e), ?_⟩)
           obtain ⟨g, off, e2, hlt, -⟩ := hn4.inb.place (by rw [digA_len hk2]; omega)
           rw [e] at e2
           injection e2 with e2
           rw [e2]
           exact hlt)
         clear hn4 hb4)
      | (refine wpList_store_box rfl 27 (.tmp 4) (.tmp 24) rfl (w.heap.size + 2) hZ ⟨3, none, 0, 0, none, 0, 0, a4, (digA k (AT.node l key v r)).length, c4, none, 0, 0⟩ rfl rfl 27 HD4.out.res infoTree5 ?_
         intro w9 hbx9 hg9
         have HX9 := Lib.hid hbx9
         have HI9 : Hid (FreshB w.heap.size w9.heap.size w9 a4 (digA k (AT.node l key v r)).length c4 (digA k (AT.node l key v r))) := Lib.hid ((HI4.out.grown hg9 (Nat.le_refl _) (.inl (Nat.lt_succ_self _))).wide (Nat.le_add_right _ _) hg9.size)
         have HB9 := Lib.hid (HD4.out.wrote hg9).2.2
         clear hbx9 hg9))
    exact bodyPost_ret (Box.result Tryd.results80 _ HX9.out rfl Tryd.underlying27 infoTree5) rfl ⟨_, rfl, FreshT.leaf (by omega) (by omega) HI9.out, HB9.out⟩
theorem shown_lit (l : AT) (key v : List Int) (r : AT) (h : TH) (w : World) (ht : InTree w h (AT.node l key v r).tr) (hkn : h.kn ≤ 3000) (hvn : h.vn ≤ 3000) : Calls Tryd.prog 78 #[.agg #[.int .i64 h.k, .slice h.ka h.kn h.kc, .slice h.va h.vn h.vc, .slice h.da h.dn h.dc, .slice h.ta h.tn h.tc]] w (ShownPost w key v) := shown_any (AT.node l key v r).tr h w ht hkn hvn
theorem dark_lit (k : Nat) (hk1 : 1 ≤ k) (hk2 : k ≤ 32) (sp : DH) (l : AT) (key v : List Int) (r : AT) (h : TH) (w : World) (ht : InTree w h (AT.node l key v r).tr) (hT : TabLies w) (hkn : h.kn ≤ 3000) (hvn : h.vn ≤ 3000) : Calls Tryd.prog 79 #[.agg #[.int .i64 k, .slice sp.ka sp.kn sp.kc, .slice sp.va sp.vn sp.vc, .bool sp.out], .agg #[.int .i64 h.k, .slice h.ka h.kn h.kc, .slice h.va h.vn h.vc, .slice h.da h.dn h.dc, .slice h.ta h.tn h.tc]] w (DarkPost w k key (dvL k v)) := dark_any k hk1 hk2 sp (AT.node l key v r).tr h w ht hT hkn hvn
theorem cut_lit7 (k : Nat) (hk1 : 1 ≤ k) (hk2 : k ≤ 32) (sp : DH) (a : AT) (h : TH) (w : World) (ht : InTree w h a.tr) (hT : TabLies w) (hl : Lim a.pairs) (hd : a.depth ≤ 64) : Calls Tryd.prog 80 #[.agg #[.int .i64 k, .slice sp.ka sp.kn sp.kc, .slice sp.va sp.vn sp.vc, .bool sp.out], .agg #[.int .i64 h.k, .slice h.ka h.kn h.kc, .slice h.va h.vn h.vc, .slice h.da h.dn h.dc, .slice h.ta h.tn h.tc]] w (ProveOk w (hideA k a)) := cut_any7 k hk1 hk2 sp a h w ht hT hl hd
end Go.Proofs.YtlbiefddcimdgaaDoor

/- The contracts of the program's withKids, by what it is handed. -/
namespace Go.Proofs.YtlbiefddcimdgaaDoor
open Go.RowKit
set_option linter.unusedVariables false

/-- withKids' boxes: the part, the node, the result. -/
structure ZK (w W : World) (hp h : TH) : Prop where
  pb : Box W 27 w.heap.size hp
  nb : Box W 27 (w.heap.size + 1) h
  res : Box W 27 (w.heap.size + 2) hZ
  b : Below w.heap.size w W
section
variable {w W W' : World} {hp h : TH}
theorem ZK.sz (d : ZK w W hp h) : w.heap.size + 3 ≤ W.heap.size := d.res.lt
theorem ZK.below (d : ZK w W hp h) (hb : Below W.heap.size W W') : ZK w W' hp h := ⟨d.pb.below hb d.pb.lt, d.nb.below hb d.nb.lt, d.res.below hb d.res.lt, d.b.trans (hb.mono d.b.size)⟩
theorem ZK.free (d : ZK w W hp h) : W.frozen? ⟨w.heap.size, 4, none⟩ = false := by
  have q := d.pb
  unfold Box at q
  simp [World.frozen?, q]
theorem ZK.set4 (d : ZK w W hp h) (a : Option Addr) (n c : Nat) : Box (W.setCell ⟨w.heap.size, 4, none⟩ (.slice a n c)) 27 w.heap.size ⟨hp.k, hp.ka, hp.kn, hp.kc, hp.va, hp.vn, hp.vc, hp.da, hp.dn, hp.dc, a, n, c⟩ := by
  have hb := d.pb
  unfold Box at hb ⊢
  simp [World.setCell, Array.getElem?_modify, hb]
theorem ZK.enter (w : World) (hp h : TH) : ZK w (((w.alloc (.cells #[.int .i64 hp.k, .slice hp.ka hp.kn hp.kc, .slice hp.va hp.vn hp.vc, .slice hp.da hp.dn hp.dc, .slice hp.ta hp.tn hp.tc] 27)).alloc (.cells #[.int .i64 h.k, .slice h.ka h.kn h.kc, .slice h.va h.vn h.vc, .slice h.da h.dn h.dc, .slice h.ta h.tn h.tc] 27)).alloc (.cells #[.int .i64 0, .slice none 0 0, .slice none 0 0, .slice none 0 0, .slice none 0 0] 27)) hp h := by
  have q1 : Below w.heap.size w (w.alloc (.cells #[.int .i64 hp.k, .slice hp.ka hp.kn hp.kc, .slice hp.va hp.vn hp.vc, .slice hp.da hp.dn hp.dc, .slice hp.ta hp.tn hp.tc] 27)) := (Below.refl _ _).alloc (Nat.le_refl _) _
  have x0 := Box.new w 27 hp
  have s1 : (w.alloc (.cells #[.int .i64 hp.k, .slice hp.ka hp.kn hp.kc, .slice hp.va hp.vn hp.vc, .slice hp.da hp.dn hp.dc, .slice hp.ta hp.tn hp.tc] 27)).heap.size = w.heap.size + 1 := by simp
  have x1 := Box.new (w.alloc (.cells #[.int .i64 hp.k, .slice hp.ka hp.kn hp.kc, .slice hp.va hp.vn hp.vc, .slice hp.da hp.dn hp.dc, .slice hp.ta hp.tn hp.tc] 27)) 27 h
  have s2 : ((w.alloc (.cells #[.int .i64 hp.k, .slice hp.ka hp.kn hp.kc, .slice hp.va hp.vn hp.vc, .slice hp.da hp.dn hp.dc, .slice hp.ta hp.tn hp.tc] 27)).alloc (.cells #[.int .i64 h.k, .slice h.ka h.kn h.kc, .slice h.va h.vn h.vc, .slice h.da h.dn h.dc, .slice h.ta h.tn h.tc] 27)).heap.size = w.heap.size + 2 := by simp
  have x2 := Box.new ((w.alloc (.cells #[.int .i64 hp.k, .slice hp.ka hp.kn hp.kc, .slice hp.va hp.vn hp.vc, .slice hp.da hp.dn hp.dc, .slice hp.ta hp.tn hp.tc] 27)).alloc (.cells #[.int .i64 h.k, .slice h.ka h.kn h.kc, .slice h.va h.vn h.vc, .slice h.da h.dn h.dc, .slice h.ta h.tn h.tc] 27)) 27 hZ
  have b1 : Below (w.alloc (.cells #[.int .i64 hp.k, .slice hp.ka hp.kn hp.kc, .slice hp.va hp.vn hp.vc, .slice hp.da hp.dn hp.dc, .slice hp.ta hp.tn hp.tc] 27)).heap.size (w.alloc (.cells #[.int .i64 hp.k, .slice hp.ka hp.kn hp.kc, .slice hp.va hp.vn hp.vc, .slice hp.da hp.dn hp.dc, .slice hp.ta hp.tn hp.tc] 27)) ((w.alloc (.cells #[.int .i64 hp.k, .slice hp.ka hp.kn hp.kc, .slice hp.va hp.vn hp.vc, .slice hp.da hp.dn hp.dc, .slice hp.ta hp.tn hp.tc] 27)).alloc (.cells #[.int .i64 h.k, .slice h.ka h.kn h.kc, .slice h.va h.vn h.vc, .slice h.da h.dn h.dc, .slice h.ta h.tn h.tc] 27)) := (Below.refl _ _).alloc (Nat.le_refl _) _
  have b2 : Below ((w.alloc (.cells #[.int .i64 hp.k, .slice hp.ka hp.kn hp.kc, .slice hp.va hp.vn hp.vc, .slice hp.da hp.dn hp.dc, .slice hp.ta hp.tn hp.tc] 27)).alloc (.cells #[.int .i64 h.k, .slice h.ka h.kn h.kc, .slice h.va h.vn h.vc, .slice h.da h.dn h.dc, .slice h.ta h.tn h.tc] 27)).heap.size ((w.alloc (.cells #[.int .i64 hp.k, .slice hp.ka hp.kn hp.kc, .slice hp.va hp.vn hp.vc, .slice hp.da hp.dn hp.dc, .slice hp.ta hp.tn hp.tc] 27)).alloc (.cells #[.int .i64 h.k, .slice h.ka h.kn h.kc, .slice h.va h.vn h.vc, .slice h.da h.dn h.dc, .slice h.ta h.tn h.tc] 27)) (((w.alloc (.cells #[.int .i64 hp.k, .slice hp.ka hp.kn hp.kc, .slice hp.va hp.vn hp.vc, .slice hp.da hp.dn hp.dc, .slice hp.ta hp.tn hp.tc] 27)).alloc (.cells #[.int .i64 h.k, .slice h.ka h.kn h.kc, .slice h.va h.vn h.vc, .slice h.da h.dn h.dc, .slice h.ta h.tn h.tc] 27)).alloc (.cells #[.int .i64 0, .slice none 0 0, .slice none 0 0, .slice none 0 0, .slice none 0 0] 27)) := (Below.refl _ _).alloc (Nat.le_refl _) _
  have x0' := (x0.below b1 x0.lt)
  rw [s1] at x1
  rw [s2] at x2
  exact ⟨x0'.below b2 x0'.lt, x1.below b2 x1.lt, x2, (q1.trans (b1.mono (by rw [s1]; omega))).trans (b2.mono (by rw [s2]; omega))⟩
end
/-- A node of new blocks. -/
def KidsPost (w : World) (lo : Nat) (c : Tr) (e : Ending) (w' : World) : Prop := ∃ h', e = .returned (.tuple #[h'.v, .nilIface]) ∧ FreshT lo w'.heap.size w' h' c ∧ Below w.heap.size w w'

set_option maxRecDepth 100000 in
set_option maxHeartbeats 4000000 in
theorem withKids_pp (k : Nat) (sp : DH) (kd : Int) (hk1 : -9223372036854775808 ≤ kd) (hk2 : kd ≤ 9223372036854775807) (ka va da : Option Addr) (kn kc vn vc dn dc : Nat) (key val dig : List Int) (c1 c2 : Tr) (h : TH) (t : Tr) (H : Nat → TH) (w : World) (lo : Nat) (hlo : lo ≤ w.heap.size)
    (fk : FreshB lo w.heap.size w ka kn kc key) (fv : FreshB lo w.heap.size w va vn vc val) (fd : FreshB lo w.heap.size w da dn dc dig) (ht : TreeAt w h t H) (h2 : h.tn = 2)
    (hl : ∀ W, Below w.heap.size w W → Calls Tryd.prog 51 #[.agg #[.int .i64 k, .slice sp.ka sp.kn sp.kc, .slice sp.va sp.vn sp.vc, .bool sp.out], .agg #[.int .i64 (H 0).k, .slice (H 0).ka (H 0).kn (H 0).kc, .slice (H 0).va (H 0).vn (H 0).vc, .slice (H 0).da (H 0).dn (H 0).dc, .slice (H 0).ta (H 0).tn (H 0).tc]] W (ProveOk W c1)) (hr : ∀ W, Below w.heap.size w W → Calls Tryd.prog 51 #[.agg #[.int .i64 k, .slice sp.ka sp.kn sp.kc, .slice sp.va sp.vn sp.vc, .bool sp.out], .agg #[.int .i64 (H 1).k, .slice (H 1).ka (H 1).kn (H 1).kc, .slice (H 1).va (H 1).vn (H 1).vc, .slice (H 1).da (H 1).dn (H 1).dc, .slice (H 1).ta (H 1).tn (H 1).tc]] W (ProveOk W c2)) :
    Calls Tryd.prog 77 #[.agg #[.int .i64 kd, .slice ka kn kc, .slice va vn vc, .slice da dn dc, .slice none 0 0], .agg #[.int .i64 h.k, .slice h.ka h.kn h.kc, .slice h.va h.vn h.vc, .slice h.da h.dn h.dc, .slice h.ta h.tn h.tc], .func (.func 51) #[.agg #[.int .i64 k, .slice sp.ka sp.kn sp.kc, .slice sp.va sp.vn sp.vc, .bool sp.out]] #[], .func (.func 51) #[.agg #[.int .i64 k, .slice sp.ka sp.kn sp.kc, .slice sp.va sp.vn sp.vc, .bool sp.out]] #[]] w (KidsPost w lo (.mk kd key val dig [c1, c2])) := by
  have HD := Lib.hid (ZK.enter w ⟨kd, ka, kn, kc, va, vn, vc, da, dn, dc, none, 0, 0⟩ h)
  have HP := Lib.hid ht
  have HL := Lib.hid hl
  have HR := Lib.hid hr
  have HFK := Lib.hid fk
  have HFV := Lib.hid fv
  have HFD := Lib.hid fd
  have ht0 : 0 < h.tn := by omega
  have ht1 : (1 : Int) < (h.tn : Int) := by omega
  obtain ⟨g, off, hta, -, -⟩ := ht.place ht0
  have HTA := Lib.hid hta
  clear ht hl hr fk fv fd h2 hta
  go_enter Tryd.func77, Tryd.ntmps77
  go_upto_region 1 with fail
  generalize (((w.alloc (.cells #[.int .i64 kd, .slice ka kn kc, .slice va vn vc, .slice da dn dc, .slice none 0 0] 27)).alloc (.cells #[.int .i64 h.k, .slice h.ka h.kn h.kc, .slice h.va h.vn h.vc, .slice h.da h.dn h.dc, .slice h.ta h.tn h.tc] 27)).alloc (.cells #[.int .i64 0, .slice none 0 0, .slice none 0 0, .slice none 0 0, .slice none 0 0] 27)) = w0 at *
  obtain ⟨x0, x1, x2, x3, x4⟩ := HD.out.nb.cells
  rw [HTA.out] at x4
  obtain ⟨y0, y1, y2, y3, y4⟩ := (HP.out.below HD.out.b).kid0 HTA.out (by omega)
  go_upto_region 4 with (first
    | (go_at_call 51
       refine (HL.out _ HD.out.b).mono ?_
       rintro _ w1 ⟨h1, rfl, f1, hb1⟩
       unfold TH.v
       have HD1 := Lib.hid (HD.out.below hb1)
       have HF1 : Hid (FreshT (w.heap.size + 3) w1.heap.size w1 h1 c1) := Lib.hid (f1.wide HD.out.sz (Nat.le_refl _))
       clear f1 hb1 x0 x1 x2 x3 x4 y0 y1 y2 y3 y4))
  have q2 : Below w1.heap.size w1 (w1.alloc (.cells #[.int .i64 h1.k, .slice h1.ka h1.kn h1.kc, .slice h1.va h1.vn h1.vc, .slice h1.da h1.dn h1.dc, .slice h1.ta h1.tn h1.tc] 27)) := (Below.refl _ _).alloc (Nat.le_refl _) _
  have HD2 := Lib.hid (HD1.out.below q2)
  have HF2 : Hid (FreshT (w.heap.size + 3) w1.heap.size (w1.alloc (.cells #[.int .i64 h1.k, .slice h1.ka h1.kn h1.kc, .slice h1.va h1.vn h1.vc, .slice h1.da h1.dn h1.dc, .slice h1.ta h1.tn h1.tc] 27)) h1 c1) := Lib.hid (HF1.out.below q2 (Nat.le_refl _))
  have HM2 := Lib.hid (Box.new w1 27 h1)
  have HZ2 : Hid (w.heap.size + 3 ≤ w1.heap.size) := Lib.hid HD1.out.sz
  have HS2 : Hid ((w1.alloc (.cells #[.int .i64 h1.k, .slice h1.ka h1.kn h1.kc, .slice h1.va h1.vn h1.vc, .slice h1.da h1.dn h1.dc, .slice h1.ta h1.tn h1.tc] 27)).heap.size = w1.heap.size + 1) := Lib.hid (by simp)
  clear q2
  generalize w1.alloc (.cells #[.int .i64 h1.k, .slice h1.ka h1.kn h1.kc, .slice h1.va h1.vn h1.vc, .slice h1.da h1.dn h1.dc, .slice h1.ta h1.tn h1.tc] 27) = w2 at *
  obtain ⟨x0, x1, x2, x3, x4⟩ := HD2.out.nb.cells
  rw [HTA.out] at x4
  obtain ⟨y0, y1, y2, y3, y4⟩ := (HP.out.below HD2.out.b).kid1 HTA.out (by omega)
  go_upto_region 7 with (first
    | (go_at_call 51
       refine (HR.out _ HD2.out.b).mono ?_
       rintro _ w3 ⟨h2, rfl, f2, hb3⟩
       unfold TH.v
       have HD3 := Lib.hid (HD2.out.below hb3)
       have HF3 : Hid (FreshT (w.heap.size + 3) w3.heap.size w3 h1 c1) := Lib.hid ((HF2.out.below hb3 (by rw [HS2.out]; omega)).wide (Nat.le_refl _) (by have := hb3.size; rw [HS2.out] at this; omega))
       have HG3 : Hid (FreshT (w.heap.size + 3) w3.heap.size w3 h2 c2) := Lib.hid (f2.wide HD2.out.sz (Nat.le_refl _))
       have HM3 := Lib.hid (HM2.out.below hb3 HM2.out.lt)
       clear f2 hb3 x0 x1 x2 x3 x4 y0 y1 y2 y3 y4))
  have q4 : Below w3.heap.size w3 (w3.alloc (.cells #[.int .i64 h2.k, .slice h2.ka h2.kn h2.kc, .slice h2.va h2.vn h2.vc, .slice h2.da h2.dn h2.dc, .slice h2.ta h2.tn h2.tc] 27)) := (Below.refl _ _).alloc (Nat.le_refl _) _
  have HD4 := Lib.hid (HD3.out.below q4)
  have HF4 : Hid (FreshT (w.heap.size + 3) w3.heap.size (w3.alloc (.cells #[.int .i64 h2.k, .slice h2.ka h2.kn h2.kc, .slice h2.va h2.vn h2.vc, .slice h2.da h2.dn h2.dc, .slice h2.ta h2.tn h2.tc] 27)) h1 c1) := Lib.hid (HF3.out.below q4 (Nat.le_refl _))
  have HG4 : Hid (FreshT (w.heap.size + 3) w3.heap.size (w3.alloc (.cells #[.int .i64 h2.k, .slice h2.ka h2.kn h2.kc, .slice h2.va h2.vn h2.vc, .slice h2.da h2.dn h2.dc, .slice h2.ta h2.tn h2.tc] 27)) h2 c2) := Lib.hid (HG3.out.below q4 (Nat.le_refl _))
  have HM4 := Lib.hid (HM3.out.below q4 HM3.out.lt)
  have HN4 := Lib.hid (Box.new w3 27 h2)
  have HZ4 : Hid (w.heap.size + 3 ≤ w3.heap.size) := Lib.hid HD3.out.sz
  have HS4 : Hid ((w3.alloc (.cells #[.int .i64 h2.k, .slice h2.ka h2.kn h2.kc, .slice h2.va h2.vn h2.vc, .slice h2.da h2.dn h2.dc, .slice h2.ta h2.tn h2.tc] 27)).heap.size = w3.heap.size + 1) := Lib.hid (by simp)
  clear q4
  generalize w3.alloc (.cells #[.int .i64 h2.k, .slice h2.ka h2.kn h2.kc, .slice h2.va h2.vn h2.vc, .slice h2.da h2.dn h2.dc, .slice h2.ta h2.tn h2.tc] 27) = w4 at *
  obtain ⟨x0, x1, x2, x3, x4⟩ := HM4.out.cells
  obtain ⟨y0, y1, y2, y3, y4⟩ := HN4.out.cells
  have q5 : Below w4.heap.size w4 (w4.alloc (.cells #[.int .i64 h1.k, .slice h1.ka h1.kn h1.kc, .slice h1.va h1.vn h1.vc, .slice h1.da h1.dn h1.dc, .slice h1.ta h1.tn h1.tc, .int .i64 h2.k, .slice h2.ka h2.kn h2.kc, .slice h2.va h2.vn h2.vc, .slice h2.da h2.dn h2.dc, .slice h2.ta h2.tn h2.tc] 27)) := (Below.refl _ _).alloc (Nat.le_refl _) _
  have fr := ZK.free (HD4.out.below q5)
  have fc := (HD4.out.below q5).pb.cells.2.2.2.2
  have HD5 := Lib.hid (HD4.out.below q5)
  have HF5 : Hid (FreshT (w.heap.size + 3) w3.heap.size (w4.alloc (.cells #[.int .i64 h1.k, .slice h1.ka h1.kn h1.kc, .slice h1.va h1.vn h1.vc, .slice h1.da h1.dn h1.dc, .slice h1.ta h1.tn h1.tc, .int .i64 h2.k, .slice h2.ka h2.kn h2.kc, .slice h2.va h2.vn h2.vc, .slice h2.da h2.dn h2.dc, .slice h2.ta h2.tn h2.tc] 27)) h1 c1) := Lib.hid (HF4.out.below q5 (by rw [HS4.out]; omega))
  have HG5 : Hid (FreshT (w.heap.size + 3) w3.heap.size (w4.alloc (.cells #[.int .i64 h1.k, .slice h1.ka h1.kn h1.kc, .slice h1.va h1.vn h1.vc, .slice h1.da h1.dn h1.dc, .slice h1.ta h1.tn h1.tc, .int .i64 h2.k, .slice h2.ka h2.kn h2.kc, .slice h2.va h2.vn h2.vc, .slice h2.da h2.dn h2.dc, .slice h2.ta h2.tn h2.tc] 27)) h2 c2) := Lib.hid (HG4.out.below q5 (by rw [HS4.out]; omega))
  have HT5 := Lib.hid (Two5.new w4 27 h1 h2)
  have HS5 : Hid ((w4.alloc (.cells #[.int .i64 h1.k, .slice h1.ka h1.kn h1.kc, .slice h1.va h1.vn h1.vc, .slice h1.da h1.dn h1.dc, .slice h1.ta h1.tn h1.tc, .int .i64 h2.k, .slice h2.ka h2.kn h2.kc, .slice h2.va h2.vn h2.vc, .slice h2.da h2.dn h2.dc, .slice h2.ta h2.tn h2.tc] 27)).heap.size = w4.heap.size + 1) := Lib.hid (by simp)
  clear q5
  go_upto_region 8 with fail
  clear fr fc x0 x1 x2 x3 x4 y0 y1 y2 y3 y4
  have g6 : (w4.alloc (.cells #[.int .i64 h1.k, .slice h1.ka h1.kn h1.kc, .slice h1.va h1.vn h1.vc, .slice h1.da h1.dn h1.dc, .slice h1.ta h1.tn h1.tc, .int .i64 h2.k, .slice h2.ka h2.kn h2.kc, .slice h2.va h2.vn h2.vc, .slice h2.da h2.dn h2.dc, .slice h2.ta h2.tn h2.tc] 27)).grownBy ((w4.alloc (.cells #[.int .i64 h1.k, .slice h1.ka h1.kn h1.kc, .slice h1.va h1.vn h1.vc, .slice h1.da h1.dn h1.dc, .slice h1.ta h1.tn h1.tc, .int .i64 h2.k, .slice h2.ka h2.kn h2.kc, .slice h2.va h2.vn h2.vc, .slice h2.da h2.dn h2.dc, .slice h2.ta h2.tn h2.tc] 27)).setCell ⟨w.heap.size, 4, none⟩ (.slice (some ⟨w4.heap.size, 0, none⟩) 2 2)) (some w.heap.size) := only_set (only_refl _ _) 4 _
  have HP6 := Lib.hid (ZK.set4 HD5.out (some ⟨w4.heap.size, 0, none⟩) 2 2)
  have HR6 := Lib.hid (HD5.out.res.grown g6 (fun q => by injection q with q; omega))
  have HB6 : Hid (Below w.heap.size w ((w4.alloc (.cells #[.int .i64 h1.k, .slice h1.ka h1.kn h1.kc, .slice h1.va h1.vn h1.vc, .slice h1.da h1.dn h1.dc, .slice h1.ta h1.tn h1.tc, .int .i64 h2.k, .slice h2.ka h2.kn h2.kc, .slice h2.va h2.vn h2.vc, .slice h2.da h2.dn h2.dc, .slice h2.ta h2.tn h2.tc] 27)).setCell ⟨w.heap.size, 4, none⟩ (.slice (some ⟨w4.heap.size, 0, none⟩) 2 2))) := Lib.hid (HD5.out.b.grown g6 HD5.out.b.size (fun j hj => by injection hj; omega))
  have HF6 := Lib.hid (HF5.out.grown g6 (by rw [HS5.out, HS4.out]; omega) (.inl (by omega)))
  have HG6 := Lib.hid (HG5.out.grown g6 (by rw [HS5.out, HS4.out]; omega) (.inl (by omega)))
  have HT6 : Hid (Two5 ((w4.alloc (.cells #[.int .i64 h1.k, .slice h1.ka h1.kn h1.kc, .slice h1.va h1.vn h1.vc, .slice h1.da h1.dn h1.dc, .slice h1.ta h1.tn h1.tc, .int .i64 h2.k, .slice h2.ka h2.kn h2.kc, .slice h2.va h2.vn h2.vc, .slice h2.da h2.dn h2.dc, .slice h2.ta h2.tn h2.tc] 27)).setCell ⟨w.heap.size, 4, none⟩ (.slice (some ⟨w4.heap.size, 0, none⟩) 2 2)) 27 w4.heap.size h1 h2) := Lib.hid ((g6.block _ HT5.out.lt (fun q => by injection q with q; have := HZ4.out; have := HS4.out; omega)).trans HT5.out)
  have HS6 : Hid (w4.heap.size < ((w4.alloc (.cells #[.int .i64 h1.k, .slice h1.ka h1.kn h1.kc, .slice h1.va h1.vn h1.vc, .slice h1.da h1.dn h1.dc, .slice h1.ta h1.tn h1.tc, .int .i64 h2.k, .slice h2.ka h2.kn h2.kc, .slice h2.va h2.vn h2.vc, .slice h2.da h2.dn h2.dc, .slice h2.ta h2.tn h2.tc] 27)).setCell ⟨w.heap.size, 4, none⟩ (.slice (some ⟨w4.heap.size, 0, none⟩) 2 2)).heap.size) := Lib.hid HT6.out.lt
  clear g6
  generalize (w4.alloc (.cells #[.int .i64 h1.k, .slice h1.ka h1.kn h1.kc, .slice h1.va h1.vn h1.vc, .slice h1.da h1.dn h1.dc, .slice h1.ta h1.tn h1.tc, .int .i64 h2.k, .slice h2.ka h2.kn h2.kc, .slice h2.va h2.vn h2.vc, .slice h2.da h2.dn h2.dc, .slice h2.ta h2.tn h2.tc] 27)).setCell ⟨w.heap.size, 4, none⟩ (.slice (some ⟨w4.heap.size, 0, none⟩) 2 2) = w6 at *
  obtain ⟨x0, x1, x2, x3, x4⟩ := HP6.out.cells
  go_wp2_with (first
    | (refine wpList_store_box rfl 27 (.tmp 8) (.tmp 43) rfl (w.heap.size + 2) hZ ⟨kd, ka, kn, kc, va, vn, vc, da, dn, dc, some ⟨w4.heap.size, 0, none⟩, 2, 2⟩ rfl rfl 27 HR6.out infoTree5 ?_
       intro w9 hbx9 hg9
       have HX9 := Lib.hid hbx9
       have HN9 : Hid (FreshT lo w9.heap.size w9 ⟨kd, ka, kn, kc, va, vn, vc, da, dn, dc, some ⟨w4.heap.size, 0, none⟩, 2, 2⟩ (.mk kd key val dig [c1, c2])) := Lib.hid (by
         have z4 := HZ4.out
         have s4 := HS4.out
         have s6 := HS6.out
         have s9 := hg9.size
         have t9 : Two5 w9 27 w4.heap.size h1 h2 := (hg9.block _ HT6.out.lt (fun q => by injection q with q; omega)).trans HT6.out
         have bk : FreshB lo w.heap.size w9 ka kn kc key := (HFK.out.below HB6.out (Nat.le_refl _)).grown hg9 HB6.out.size (.inr (Nat.le_add_right _ _))
         have bv : FreshB lo w.heap.size w9 va vn vc val := (HFV.out.below HB6.out (Nat.le_refl _)).grown hg9 HB6.out.size (.inr (Nat.le_add_right _ _))
         have bd : FreshB lo w.heap.size w9 da dn dc dig := (HFD.out.below HB6.out (Nat.le_refl _)).grown hg9 HB6.out.size (.inr (Nat.le_add_right _ _))
         have u1 := HF6.out.grown hg9 (by omega) (.inl (by omega))
         have u2 := HG6.out.grown hg9 (by omega) (.inl (by omega))
         have l9 : w.heap.size ≤ w9.heap.size := Nat.le_trans HB6.out.size s9
         exact FreshT.node t9 (by omega) (by omega) (u1.wide (by omega) (by omega)) (u2.wide (by omega) (by omega)) hk1 hk2 (bk.wide (Nat.le_refl _) l9) (bv.wide (Nat.le_refl _) l9) (bd.wide (Nat.le_refl _) l9))
       have HB9 : Hid (Below w.heap.size w w9) := Lib.hid (HB6.out.grown hg9 HB6.out.size (fun j hj => by injection hj; omega))
       clear hbx9 hg9))
  exact bodyPost_ret (Box.result Tryd.results77 _ HX9.out rfl Tryd.underlying27 infoTree5) rfl ⟨_, rfl, HN9.out, HB9.out⟩

set_option maxRecDepth 100000 in
set_option maxHeartbeats 4000000 in
theorem withKids_cp (k : Nat) (sp : DH) (kd : Int) (hk1 : -9223372036854775808 ≤ kd) (hk2 : kd ≤ 9223372036854775807) (ka va da : Option Addr) (kn kc vn vc dn dc : Nat) (key val dig : List Int) (c1 c2 : Tr) (h : TH) (t : Tr) (H : Nat → TH) (w : World) (lo : Nat) (hlo : lo ≤ w.heap.size)
    (fk : FreshB lo w.heap.size w ka kn kc key) (fv : FreshB lo w.heap.size w va vn vc val) (fd : FreshB lo w.heap.size w da dn dc dig) (ht : TreeAt w h t H) (h2 : h.tn = 2)
    (hl : ∀ W, Below w.heap.size w W → Calls Tryd.prog 80 #[.agg #[.int .i64 k, .slice sp.ka sp.kn sp.kc, .slice sp.va sp.vn sp.vc, .bool sp.out], .agg #[.int .i64 (H 0).k, .slice (H 0).ka (H 0).kn (H 0).kc, .slice (H 0).va (H 0).vn (H 0).vc, .slice (H 0).da (H 0).dn (H 0).dc, .slice (H 0).ta (H 0).tn (H 0).tc]] W (ProveOk W c1)) (hr : ∀ W, Below w.heap.size w W → Calls Tryd.prog 51 #[.agg #[.int .i64 k, .slice sp.ka sp.kn sp.kc, .slice sp.va sp.vn sp.vc, .bool sp.out], .agg #[.int .i64 (H 1).k, .slice (H 1).ka (H 1).kn (H 1).kc, .slice (H 1).va (H 1).vn (H 1).vc, .slice (H 1).da (H 1).dn (H 1).dc, .slice (H 1).ta (H 1).tn (H 1).tc]] W (ProveOk W c2)) :
    Calls Tryd.prog 77 #[.agg #[.int .i64 kd, .slice ka kn kc, .slice va vn vc, .slice da dn dc, .slice none 0 0], .agg #[.int .i64 h.k, .slice h.ka h.kn h.kc, .slice h.va h.vn h.vc, .slice h.da h.dn h.dc, .slice h.ta h.tn h.tc], .func (.func 80) #[.agg #[.int .i64 k, .slice sp.ka sp.kn sp.kc, .slice sp.va sp.vn sp.vc, .bool sp.out]] #[], .func (.func 51) #[.agg #[.int .i64 k, .slice sp.ka sp.kn sp.kc, .slice sp.va sp.vn sp.vc, .bool sp.out]] #[]] w (KidsPost w lo (.mk kd key val dig [c1, c2])) := by
  have HD := Lib.hid (ZK.enter w ⟨kd, ka, kn, kc, va, vn, vc, da, dn, dc, none, 0, 0⟩ h)
  have HP := Lib.hid ht
  have HL := Lib.hid hl
  have HR := Lib.hid hr
  have HFK := Lib.hid fk
  have HFV := Lib.hid fv
  have HFD := Lib.hid fd
  have ht0 : 0 < h.tn := by omega
  have ht1 : (1 : Int) < (h.tn : Int) := by omega
  obtain ⟨g, off, hta, -, -⟩ := ht.place ht0
  have HTA := Lib.hid hta
  clear ht hl hr fk fv fd h2 hta
  go_enter Tryd.func77, Tryd.ntmps77
  go_upto_region 1 with fail
  generalize (((w.alloc (.cells #[.int .i64 kd, .slice ka kn kc, .slice va vn vc, .slice da dn dc, .slice none 0 0] 27)).alloc (.cells #[.int .i64 h.k, .slice h.ka h.kn h.kc, .slice h.va h.vn h.vc, .slice h.da h.dn h.dc, .slice h.ta h.tn h.tc] 27)).alloc (.cells #[.int .i64 0, .slice none 0 0, .slice none 0 0, .slice none 0 0, .slice none 0 0] 27)) = w0 at *
  obtain ⟨x0, x1, x2, x3, x4⟩ := HD.out.nb.cells
  rw [HTA.out] at x4
  obtain ⟨y0, y1, y2, y3, y4⟩ := (HP.out.below HD.out.b).kid0 HTA.out (by omega)
  go_upto_region 4 with (first
    | (go_at_call 80
       refine (HL.out _ HD.out.b).mono ?_
       rintro _ w1 ⟨h1, rfl, f1, hb1⟩
       unfold TH.v
       have HD1 := Lib.hid (HD.out.below hb1)
       have HF1 : Hid (FreshT (w.heap.size + 3) w1.heap.size w1 h1 c1) := Lib.hid (f1.wide HD.out.sz (Nat.le_refl _))
       clear f1 hb1 x0 x1 x2 x3 x4 y0 y1 y2 y3 y4))
  have q2 : Below w1.heap.size w1 (w1.alloc (.cells #[.int .i64 h1.k, .slice h1.ka h1.kn h1.kc, .slice h1.va h1.vn h1.vc, .slice h1.da h1.dn h1.dc, .slice h1.ta h1.tn h1.tc] 27)) := (Below.refl _ _).alloc (Nat.le_refl _) _
  have HD2 := Lib.hid (HD1.out.below q2)
  have HF2 : Hid (FreshT (w.heap.size + 3) w1.heap.size (w1.alloc (.cells #[.int .i64 h1.k, .slice h1.ka h1.kn h1.kc, .slice h1.va h1.vn h1.vc, .slice h1.da h1.dn h1.dc, .slice h1.ta h1.tn h1.tc] 27)) h1 c1) := Lib.hid (HF1.out.below q2 (Nat.le_refl _))
  have HM2 := Lib.hid (Box.new w1 27 h1)
  have HZ2 : Hid (w.heap.size + 3 ≤ w1.heap.size) := Lib.hid HD1.out.sz
  have HS2 : Hid ((w1.alloc (.cells #[.int .i64 h1.k, .slice h1.ka h1.kn h1.kc, .slice h1.va h1.vn h1.vc, .slice h1.da h1.dn h1.dc, .slice h1.ta h1.tn h1.tc] 27)).heap.size = w1.heap.size + 1) := Lib.hid (by simp)
  clear q2
  generalize w1.alloc (.cells #[.int .i64 h1.k, .slice h1.ka h1.kn h1.kc, .slice h1.va h1.vn h1.vc, .slice h1.da h1.dn h1.dc, .slice h1.ta h1.tn h1.tc] 27) = w2 at *
  obtain ⟨x0, x1, x2, x3, x4⟩ := HD2.out.nb.cells
  rw [HTA.out] at x4
  obtain ⟨y0, y1, y2, y3, y4⟩ := (HP.out.below HD2.out.b).kid1 HTA.out (by omega)
  go_upto_region 7 with (first
    | (go_at_call 51
       refine (HR.out _ HD2.out.b).mono ?_
       rintro _ w3 ⟨h2, rfl, f2, hb3⟩
       unfold TH.v
       have HD3 := Lib.hid (HD2.out.below hb3)
       have HF3 : Hid (FreshT (w.heap.size + 3) w3.heap.size w3 h1 c1) := Lib.hid ((HF2.out.below hb3 (by rw [HS2.out]; omega)).wide (Nat.le_refl _) (by have := hb3.size; rw [HS2.out] at this; omega))
       have HG3 : Hid (FreshT (w.heap.size + 3) w3.heap.size w3 h2 c2) := Lib.hid (f2.wide HD2.out.sz (Nat.le_refl _))
       have HM3 := Lib.hid (HM2.out.below hb3 HM2.out.lt)
       clear f2 hb3 x0 x1 x2 x3 x4 y0 y1 y2 y3 y4))
  have q4 : Below w3.heap.size w3 (w3.alloc (.cells #[.int .i64 h2.k, .slice h2.ka h2.kn h2.kc, .slice h2.va h2.vn h2.vc, .slice h2.da h2.dn h2.dc, .slice h2.ta h2.tn h2.tc] 27)) := (Below.refl _ _).alloc (Nat.le_refl _) _
  have HD4 := Lib.hid (HD3.out.below q4)
  have HF4 : Hid (FreshT (w.heap.size + 3) w3.heap.size (w3.alloc (.cells #[.int .i64 h2.k, .slice h2.ka h2.kn h2.kc, .slice h2.va h2.vn h2.vc, .slice h2.da h2.dn h2.dc, .slice h2.ta h2.tn h2.tc] 27)) h1 c1) := Lib.hid (HF3.out.below q4 (Nat.le_refl _))
  have HG4 : Hid (FreshT (w.heap.size + 3) w3.heap.size (w3.alloc (.cells #[.int .i64 h2.k, .slice h2.ka h2.kn h2.kc, .slice h2.va h2.vn h2.vc, .slice h2.da h2.dn h2.dc, .slice h2.ta h2.tn h2.tc] 27)) h2 c2) := Lib.hid (HG3.out.below q4 (Nat.le_refl _))
  have HM4 := Lib.hid (HM3.out.below q4 HM3.out.lt)
  have HN4 := Lib.hid (Box.new w3 27 h2)
  have HZ4 : Hid (w.heap.size + 3 ≤ w3.heap.size) := Lib.hid HD3.out.sz
  have HS4 : Hid ((w3.alloc (.cells #[.int .i64 h2.k, .slice h2.ka h2.kn h2.kc, .slice h2.va h2.vn h2.vc, .slice h2.da h2.dn h2.dc, .slice h2.ta h2.tn h2.tc] 27)).heap.size = w3.heap.size + 1) := Lib.hid (by simp)
  clear q4
  generalize w3.alloc (.cells #[.int .i64 h2.k, .slice h2.ka h2.kn h2.kc, .slice h2.va h2.vn h2.vc, .slice h2.da h2.dn h2.dc, .slice h2.ta h2.tn h2.tc] 27) = w4 at *
  obtain ⟨x0, x1, x2, x3, x4⟩ := HM4.out.cells
  obtain ⟨y0, y1, y2, y3, y4⟩ := HN4.out.cells
  have q5 : Below w4.heap.size w4 (w4.alloc (.cells #[.int .i64 h1.k, .slice h1.ka h1.kn h1.kc, .slice h1.va h1.vn h1.vc, .slice h1.da h1.dn h1.dc, .slice h1.ta h1.tn h1.tc, .int .i64 h2.k, .slice h2.ka h2.kn h2.kc, .slice h2.va h2.vn h2.vc, .slice h2.da h2.dn h2.dc, .slice h2.ta h2.tn h2.tc] 27)) := (Below.refl _ _).alloc (Nat.le_refl _) _
  have fr := ZK.free (HD4.out.below q5)
  have fc := (HD4.out.below q5).pb.cells.2.2.2.2
  have HD5 := Lib.hid (HD4.out.below q5)
  have HF5 : Hid (FreshT (w.heap.size + 3) w3.heap.size (w4.alloc (.cells #[.int .i64 h1.k, .slice h1.ka h1.kn h1.kc, .slice h1.va h1.vn h1.vc, .slice h1.da h1.dn h1.dc, .slice h1.ta h1.tn h1.tc, .int .i64 h2.k, .slice h2.ka h2.kn h2.kc, .slice h2.va h2.vn h2.vc, .slice h2.da h2.dn h2.dc, .slice h2.ta h2.tn h2.tc] 27)) h1 c1) := Lib.hid (HF4.out.below q5 (by rw [HS4.out]; omega))
  have HG5 : Hid (FreshT (w.heap.size + 3) w3.heap.size (w4.alloc (.cells #[.int .i64 h1.k, .slice h1.ka h1.kn h1.kc, .slice h1.va h1.vn h1.vc, .slice h1.da h1.dn h1.dc, .slice h1.ta h1.tn h1.tc, .int .i64 h2.k, .slice h2.ka h2.kn h2.kc, .slice h2.va h2.vn h2.vc, .slice h2.da h2.dn h2.dc, .slice h2.ta h2.tn h2.tc] 27)) h2 c2) := Lib.hid (HG4.out.below q5 (by rw [HS4.out]; omega))
  have HT5 := Lib.hid (Two5.new w4 27 h1 h2)
  have HS5 : Hid ((w4.alloc (.cells #[.int .i64 h1.k, .slice h1.ka h1.kn h1.kc, .slice h1.va h1.vn h1.vc, .slice h1.da h1.dn h1.dc, .slice h1.ta h1.tn h1.tc, .int .i64 h2.k, .slice h2.ka h2.kn h2.kc, .slice h2.va h2.vn h2.vc, .slice h2.da h2.dn h2.dc, .slice h2.ta h2.tn h2.tc] 27)).heap.size = w4.heap.size + 1) := Lib.hid (by simp)
  clear q5
  go_upto_region 8 with fail
  clear fr fc x0 x1 x2 x3 x4 y0 y1 y2 y3 y4
  have g6 : (w4.alloc (.cells #[.int .i64 h1.k, .slice h1.ka h1.kn h1.kc, .slice h1.va h1.vn h1.vc, .slice h1.da h1.dn h1.dc, .slice h1.ta h1.tn h1.tc, .int .i64 h2.k, .slice h2.ka h2.kn h2.kc, .slice h2.va h2.vn h2.vc, .slice h2.da h2.dn h2.dc, .slice h2.ta h2.tn h2.tc] 27)).grownBy ((w4.alloc (.cells #[.int .i64 h1.k, .slice h1.ka h1.kn h1.kc, .slice h1.va h1.vn h1.vc, .slice h1.da h1.dn h1.dc, .slice h1.ta h1.tn h1.tc, .int .i64 h2.k, .slice h2.ka h2.kn h2.kc, .slice h2.va h2.vn h2.vc, .slice h2.da h2.dn h2.dc, .slice h2.ta h2.tn h2.tc] 27)).setCell ⟨w.heap.size, 4, none⟩ (.slice (some ⟨w4.heap.size, 0, none⟩) 2 2)) (some w.heap.size) := only_set (only_refl _ _) 4 _
  have HP6 := Lib.hid (ZK.set4 HD5.out (some ⟨w4.heap.size, 0, none⟩) 2 2)
  have HR6 := Lib.hid (HD5.out.res.grown g6 (fun q => by injection q with q; omega))
  have HB6 : Hid (Below w.heap.size w ((w4.alloc (.cells #[.int .i64 h1.k, .slice h1.ka h1.kn h1.kc, .slice h1.va h1.vn h1.vc, .slice h1.da h1.dn h1.dc, .slice h1.ta h1.tn h1.tc, .int .i64 h2.k, .slice h2.ka h2.kn h2.kc, .slice h2.va h2.vn h2.vc, .slice h2.da h2.dn h2.dc, .slice h2.ta h2.tn h2.tc] 27)).setCell ⟨w.heap.size, 4, none⟩ (.slice (some ⟨w4.heap.size, 0, none⟩) 2 2))) := Lib.hid (HD5.out.b.grown g6 HD5.out.b.size (fun j hj => by injection hj; omega))
  have HF6 := Lib.hid (HF5.out.grown g6 (by rw [HS5.out, HS4.out]; omega) (.inl (by omega)))
  have HG6 := Lib.hid (HG5.out.grown g6 (by rw [HS5.out, HS4.out]; omega) (.inl (by omega)))
  have HT6 : Hid (Two5 ((w4.alloc (.cells #[.int .i64 h1.k, .slice h1.ka h1.kn h1.kc, .slice h1.va h1.vn h1.vc, .slice h1.da h1.dn h1.dc, .slice h1.ta h1.tn h1.tc, .int .i64 h2.k, .slice h2.ka h2.kn h2.kc, .slice h2.va h2.vn h2.vc, .slice h2.da h2.dn h2.dc, .slice h2.ta h2.tn h2.tc] 27)).setCell ⟨w.heap.size, 4, none⟩ (.slice (some ⟨w4.heap.size, 0, none⟩) 2 2)) 27 w4.heap.size h1 h2) := Lib.hid ((g6.block _ HT5.out.lt (fun q => by injection q with q; have := HZ4.out; have := HS4.out; omega)).trans HT5.out)
  have HS6 : Hid (w4.heap.size < ((w4.alloc (.cells #[.int .i64 h1.k, .slice h1.ka h1.kn h1.kc, .slice h1.va h1.vn h1.vc, .slice h1.da h1.dn h1.dc, .slice h1.ta h1.tn h1.tc, .int .i64 h2.k, .slice h2.ka h2.kn h2.kc, .slice h2.va h2.vn h2.vc, .slice h2.da h2.dn h2.dc, .slice h2.ta h2.tn h2.tc] 27)).setCell ⟨w.heap.size, 4, none⟩ (.slice (some ⟨w4.heap.size, 0, none⟩) 2 2)).heap.size) := Lib.hid HT6.out.lt
  clear g6
  generalize (w4.alloc (.cells #[.int .i64 h1.k, .slice h1.ka h1.kn h1.kc, .slice h1.va h1.vn h1.vc, .slice h1.da h1.dn h1.dc, .slice h1.ta h1.tn h1.tc, .int .i64 h2.k, .slice h2.ka h2.kn h2.kc, .slice h2.va h2.vn h2.vc, .slice h2.da h2.dn h2.dc, .slice h2.ta h2.tn h2.tc] 27)).setCell ⟨w.heap.size, 4, none⟩ (.slice (some ⟨w4.heap.size, 0, none⟩) 2 2) = w6 at *
  obtain ⟨x0, x1, x2, x3, x4⟩ := HP6.out.cells
  go_wp2_with (first
    | (refine wpList_store_box rfl 27 (.tmp 8) (.tmp 43) rfl (w.heap.size + 2) hZ ⟨kd, ka, kn, kc, va, vn, vc, da, dn, dc, some ⟨w4.heap.size, 0, none⟩, 2, 2⟩ rfl rfl 27 HR6.out infoTree5 ?_
       intro w9 hbx9 hg9
       have HX9 := Lib.hid hbx9
       have HN9 : Hid (FreshT lo w9.heap.size w9 ⟨kd, ka, kn, kc, va, vn, vc, da, dn, dc, some ⟨w4.heap.size, 0, none⟩, 2, 2⟩ (.mk kd key val dig [c1, c2])) := Lib.hid (by
         have z4 := HZ4.out
         have s4 := HS4.out
         have s6 := HS6.out
         have s9 := hg9.size
         have t9 : Two5 w9 27 w4.heap.size h1 h2 := (hg9.block _ HT6.out.lt (fun q => by injection q with q; omega)).trans HT6.out
         have bk : FreshB lo w.heap.size w9 ka kn kc key := (HFK.out.below HB6.out (Nat.le_refl _)).grown hg9 HB6.out.size (.inr (Nat.le_add_right _ _))
         have bv : FreshB lo w.heap.size w9 va vn vc val := (HFV.out.below HB6.out (Nat.le_refl _)).grown hg9 HB6.out.size (.inr (Nat.le_add_right _ _))
         have bd : FreshB lo w.heap.size w9 da dn dc dig := (HFD.out.below HB6.out (Nat.le_refl _)).grown hg9 HB6.out.size (.inr (Nat.le_add_right _ _))
         have u1 := HF6.out.grown hg9 (by omega) (.inl (by omega))
         have u2 := HG6.out.grown hg9 (by omega) (.inl (by omega))
         have l9 : w.heap.size ≤ w9.heap.size := Nat.le_trans HB6.out.size s9
         exact FreshT.node t9 (by omega) (by omega) (u1.wide (by omega) (by omega)) (u2.wide (by omega) (by omega)) hk1 hk2 (bk.wide (Nat.le_refl _) l9) (bv.wide (Nat.le_refl _) l9) (bd.wide (Nat.le_refl _) l9))
       have HB9 : Hid (Below w.heap.size w w9) := Lib.hid (HB6.out.grown hg9 HB6.out.size (fun j hj => by injection hj; omega))
       clear hbx9 hg9))
  exact bodyPost_ret (Box.result Tryd.results77 _ HX9.out rfl Tryd.underlying27 infoTree5) rfl ⟨_, rfl, HN9.out, HB9.out⟩

set_option maxRecDepth 100000 in
set_option maxHeartbeats 4000000 in
theorem withKids_pc (k : Nat) (sp : DH) (kd : Int) (hk1 : -9223372036854775808 ≤ kd) (hk2 : kd ≤ 9223372036854775807) (ka va da : Option Addr) (kn kc vn vc dn dc : Nat) (key val dig : List Int) (c1 c2 : Tr) (h : TH) (t : Tr) (H : Nat → TH) (w : World) (lo : Nat) (hlo : lo ≤ w.heap.size)
    (fk : FreshB lo w.heap.size w ka kn kc key) (fv : FreshB lo w.heap.size w va vn vc val) (fd : FreshB lo w.heap.size w da dn dc dig) (ht : TreeAt w h t H) (h2 : h.tn = 2)
    (hl : ∀ W, Below w.heap.size w W → Calls Tryd.prog 51 #[.agg #[.int .i64 k, .slice sp.ka sp.kn sp.kc, .slice sp.va sp.vn sp.vc, .bool sp.out], .agg #[.int .i64 (H 0).k, .slice (H 0).ka (H 0).kn (H 0).kc, .slice (H 0).va (H 0).vn (H 0).vc, .slice (H 0).da (H 0).dn (H 0).dc, .slice (H 0).ta (H 0).tn (H 0).tc]] W (ProveOk W c1)) (hr : ∀ W, Below w.heap.size w W → Calls Tryd.prog 80 #[.agg #[.int .i64 k, .slice sp.ka sp.kn sp.kc, .slice sp.va sp.vn sp.vc, .bool sp.out], .agg #[.int .i64 (H 1).k, .slice (H 1).ka (H 1).kn (H 1).kc, .slice (H 1).va (H 1).vn (H 1).vc, .slice (H 1).da (H 1).dn (H 1).dc, .slice (H 1).ta (H 1).tn (H 1).tc]] W (ProveOk W c2)) :
    Calls Tryd.prog 77 #[.agg #[.int .i64 kd, .slice ka kn kc, .slice va vn vc, .slice da dn dc, .slice none 0 0], .agg #[.int .i64 h.k, .slice h.ka h.kn h.kc, .slice h.va h.vn h.vc, .slice h.da h.dn h.dc, .slice h.ta h.tn h.tc], .func (.func 51) #[.agg #[.int .i64 k, .slice sp.ka sp.kn sp.kc, .slice sp.va sp.vn sp.vc, .bool sp.out]] #[], .func (.func 80) #[.agg #[.int .i64 k, .slice sp.ka sp.kn sp.kc, .slice sp.va sp.vn sp.vc, .bool sp.out]] #[]] w (KidsPost w lo (.mk kd key val dig [c1, c2])) := by
  have HD := Lib.hid (ZK.enter w ⟨kd, ka, kn, kc, va, vn, vc, da, dn, dc, none, 0, 0⟩ h)
  have HP := Lib.hid ht
  have HL := Lib.hid hl
  have HR := Lib.hid hr
  have HFK := Lib.hid fk
  have HFV := Lib.hid fv
  have HFD := Lib.hid fd
  have ht0 : 0 < h.tn := by omega
  have ht1 : (1 : Int) < (h.tn : Int) := by omega
  obtain ⟨g, off, hta, -, -⟩ := ht.place ht0
  have HTA := Lib.hid hta
  clear ht hl hr fk fv fd h2 hta
  go_enter Tryd.func77, Tryd.ntmps77
  go_upto_region 1 with fail
  generalize (((w.alloc (.cells #[.int .i64 kd, .slice ka kn kc, .slice va vn vc, .slice da dn dc, .slice none 0 0] 27)).alloc (.cells #[.int .i64 h.k, .slice h.ka h.kn h.kc, .slice h.va h.vn h.vc, .slice h.da h.dn h.dc, .slice h.ta h.tn h.tc] 27)).alloc (.cells #[.int .i64 0, .slice none 0 0, .slice none 0 0, .slice none 0 0, .slice none 0 0] 27)) = w0 at *
  obtain ⟨x0, x1, x2, x3, x4⟩ := HD.out.nb.cells
  rw [HTA.out] at x4
  obtain ⟨y0, y1, y2, y3, y4⟩ := (HP.out.below HD.out.b).kid0 HTA.out (by omega)
  go_upto_region 4 with (first
    | (go_at_call 51
       refine (HL.out _ HD.out.b).mono ?_
       rintro _ w1 ⟨h1, rfl, f1, hb1⟩
       unfold TH.v
       have HD1 := Lib.hid (HD.out.below hb1)
       have HF1 : Hid (FreshT (w.heap.size + 3) w1.heap.size w1 h1 c1) := Lib.hid (f1.wide HD.out.sz (Nat.le_refl _))
       clear f1 hb1 x0 x1 x2 x3 x4 y0 y1 y2 y3 y4))
  have q2 : Below w1.heap.size w1 (w1.alloc (.cells #[.int .i64 h1.k, .slice h1.ka h1.kn h1.kc, .slice h1.va h1.vn h1.vc, .slice h1.da h1.dn h1.dc, .slice h1.ta h1.tn h1.tc] 27)) := (Below.refl _ _).alloc (Nat.le_refl _) _
  have HD2 := Lib.hid (HD1.out.below q2)
  have HF2 : Hid (FreshT (w.heap.size + 3) w1.heap.size (w1.alloc (.cells #[.int .i64 h1.k, .slice h1.ka h1.kn h1.kc, .slice h1.va h1.vn h1.vc, .slice h1.da h1.dn h1.dc, .slice h1.ta h1.tn h1.tc] 27)) h1 c1) := Lib.hid (HF1.out.below q2 (Nat.le_refl _))
  have HM2 := Lib.hid (Box.new w1 27 h1)
  have HZ2 : Hid (w.heap.size + 3 ≤ w1.heap.size) := Lib.hid HD1.out.sz
  have HS2 : Hid ((w1.alloc (.cells #[.int .i64 h1.k, .slice h1.ka h1.kn h1.kc, .slice h1.va h1.vn h1.vc, .slice h1.da h1.dn h1.dc, .slice h1.ta h1.tn h1.tc] 27)).heap.size = w1.heap.size + 1) := Lib.hid (by simp)
  clear q2
  generalize w1.alloc (.cells #[.int .i64 h1.k, .slice h1.ka h1.kn h1.kc, .slice h1.va h1.vn h1.vc, .slice h1.da h1.dn h1.dc, .slice h1.ta h1.tn h1.tc] 27) = w2 at *
  obtain ⟨x0, x1, x2, x3, x4⟩ := HD2.out.nb.cells
  rw [HTA.out] at x4
  obtain ⟨y0, y1, y2, y3, y4⟩ := (HP.out.below HD2.out.b).kid1 HTA.out (by omega)
  go_upto_region 7 with (first
    | (go_at_call 80
       refine (HR.out _ HD2.out.b).mono ?_
       rintro _ w3 ⟨h2, rfl, f2, hb3⟩
       unfold TH.v
       have HD3 := Lib.hid (HD2.out.below hb3)
       have HF3 : Hid (FreshT (w.heap.size + 3) w3.heap.size w3 h1 c1) := Lib.hid ((HF2.out.below hb3 (by rw [HS2.out]; omega)).wide (Nat.le_refl _) (by have := hb3.size; rw [HS2.out] at this; omega))
       have HG3 : Hid (FreshT (w.heap.size + 3) w3.heap.size w3 h2 c2) := Lib.hid (f2.wide HD2.out.sz (Nat.le_refl _))
       have HM3 := Lib.hid (HM2.out.below hb3 HM2.out.lt)
       clear f2 hb3 x0 x1 x2 x3 x4 y0 y1 y2 y3 y4))
  have q4 : Below w3.heap.size w3 (w3.alloc (.cells #[.int .i64 h2.k, .slice h2.ka h2.kn h2.kc, .slice h2.va h2.vn h2.vc, .slice h2.da h2.dn h2.dc, .slice h2.ta h2.tn h2.tc] 27)) := (Below.refl _ _).alloc (Nat.le_refl _) _
  have HD4 := Lib.hid (HD3.out.below q4)
  have HF4 : Hid (FreshT (w.heap.size + 3) w3.heap.size (w3.alloc (.cells #[.int .i64 h2.k, .slice h2.ka h2.kn h2.kc, .slice h2.va h2.vn h2.vc, .slice h2.da h2.dn h2.dc, .slice h2.ta h2.tn h2.tc] 27)) h1 c1) := Lib.hid (HF3.out.below q4 (Nat.le_refl _))
  have HG4 : Hid (FreshT (w.heap.size + 3) w3.heap.size (w3.alloc (.cells #[.int .i64 h2.k, .slice h2.ka h2.kn h2.kc, .slice h2.va h2.vn h2.vc, .slice h2.da h2.dn h2.dc, .slice h2.ta h2.tn h2.tc] 27)) h2 c2) := Lib.hid (HG3.out.below q4 (Nat.le_refl _))
  have HM4 := Lib.hid (HM3.out.below q4 HM3.out.lt)
  have HN4 := Lib.hid (Box.new w3 27 h2)
  have HZ4 : Hid (w.heap.size + 3 ≤ w3.heap.size) := Lib.hid HD3.out.sz
  have HS4 : Hid ((w3.alloc (.cells #[.int .i64 h2.k, .slice h2.ka h2.kn h2.kc, .slice h2.va h2.vn h2.vc, .slice h2.da h2.dn h2.dc, .slice h2.ta h2.tn h2.tc] 27)).heap.size = w3.heap.size + 1) := Lib.hid (by simp)
  clear q4
  generalize w3.alloc (.cells #[.int .i64 h2.k, .slice h2.ka h2.kn h2.kc, .slice h2.va h2.vn h2.vc, .slice h2.da h2.dn h2.dc, .slice h2.ta h2.tn h2.tc] 27) = w4 at *
  obtain ⟨x0, x1, x2, x3, x4⟩ := HM4.out.cells
  obtain ⟨y0, y1, y2, y3, y4⟩ := HN4.out.cells
  have q5 : Below w4.heap.size w4 (w4.alloc (.cells #[.int .i64 h1.k, .slice h1.ka h1.kn h1.kc, .slice h1.va h1.vn h1.vc, .slice h1.da h1.dn h1.dc, .slice h1.ta h1.tn h1.tc, .int .i64 h2.k, .slice h2.ka h2.kn h2.kc, .slice h2.va h2.vn h2.vc, .slice h2.da h2.dn h2.dc, .slice h2.ta h2.tn h2.tc] 27)) := (Below.refl _ _).alloc (Nat.le_refl _) _
  have fr := ZK.free (HD4.out.below q5)
  have fc := (HD4.out.below q5).pb.cells.2.2.2.2
  have HD5 := Lib.hid (HD4.out.below q5)
  have HF5 : Hid (FreshT (w.heap.size + 3) w3.heap.size (w4.alloc (.cells #[.int .i64 h1.k, .slice h1.ka h1.kn h1.kc, .slice h1.va h1.vn h1.vc, .slice h1.da h1.dn h1.dc, .slice h1.ta h1.tn h1.tc, .int .i64 h2.k, .slice h2.ka h2.kn h2.kc, .slice h2.va h2.vn h2.vc, .slice h2.da h2.dn h2.dc, .slice h2.ta h2.tn h2.tc] 27)) h1 c1) := Lib.hid (HF4.out.below q5 (by rw [HS4.out]; omega))
  have HG5 : Hid (FreshT (w.heap.size + 3) w3.heap.size (w4.alloc (.cells #[.int .i64 h1.k, .slice h1.ka h1.kn h1.kc, .slice h1.va h1.vn h1.vc, .slice h1.da h1.dn h1.dc, .slice h1.ta h1.tn h1.tc, .int .i64 h2.k, .slice h2.ka h2.kn h2.kc, .slice h2.va h2.vn h2.vc, .slice h2.da h2.dn h2.dc, .slice h2.ta h2.tn h2.tc] 27)) h2 c2) := Lib.hid (HG4.out.below q5 (by rw [HS4.out]; omega))
  have HT5 := Lib.hid (Two5.new w4 27 h1 h2)
  have HS5 : Hid ((w4.alloc (.cells #[.int .i64 h1.k, .slice h1.ka h1.kn h1.kc, .slice h1.va h1.vn h1.vc, .slice h1.da h1.dn h1.dc, .slice h1.ta h1.tn h1.tc, .int .i64 h2.k, .slice h2.ka h2.kn h2.kc, .slice h2.va h2.vn h2.vc, .slice h2.da h2.dn h2.dc, .slice h2.ta h2.tn h2.tc] 27)).heap.size = w4.heap.size + 1) := Lib.hid (by simp)
  clear q5
  go_upto_region 8 with fail
  clear fr fc x0 x1 x2 x3 x4 y0 y1 y2 y3 y4
  have g6 : (w4.alloc (.cells #[.int .i64 h1.k, .slice h1.ka h1.kn h1.kc, .slice h1.va h1.vn h1.vc, .slice h1.da h1.dn h1.dc, .slice h1.ta h1.tn h1.tc, .int .i64 h2.k, .slice h2.ka h2.kn h2.kc, .slice h2.va h2.vn h2.vc, .slice h2.da h2.dn h2.dc, .slice h2.ta h2.tn h2.tc] 27)).grownBy ((w4.alloc (.cells #[.int .i64 h1.k, .slice h1.ka h1.kn h1.kc, .slice h1.va h1.vn h1.vc, .slice h1.da h1.dn h1.dc, .slice h1.ta h1.tn h1.tc, .int .i64 h2.k, .slice h2.ka h2.kn h2.kc, .slice h2.va h2.vn h2.vc, .slice h2.da h2.dn h2.dc, .slice h2.ta h2.tn h2.tc] 27)).setCell ⟨w.heap.size, 4, none⟩ (.slice (some ⟨w4.heap.size, 0, none⟩) 2 2)) (some w.heap.size) := only_set (only_refl _ _) 4 _
  have HP6 := Lib.hid (ZK.set4 HD5.out (some ⟨w4.heap.size, 0, none⟩) 2 2)
  have HR6 := Lib.hid (HD5.out.res.grown g6 (fun q => by injection q with q; omega))
  have HB6 : Hid (Below w.heap.size w ((w4.alloc (.cells #[.int .i64 h1.k, .slice h1.ka h1.kn h1.kc, .slice h1.va h1.vn h1.vc, .slice h1.da h1.dn h1.dc, .slice h1.ta h1.tn h1.tc, .int .i64 h2.k, .slice h2.ka h2.kn h2.kc, .slice h2.va h2.vn h2.vc, .slice h2.da h2.dn h2.dc, .slice h2.ta h2.tn h2.tc] 27)).setCell ⟨w.heap.size, 4, none⟩ (.slice (some ⟨w4.heap.size, 0, none⟩) 2 2))) := Lib.hid (HD5.out.b.grown g6 HD5.out.b.size (fun j hj => by injection hj; omega))
  have HF6 := Lib.hid (HF5.out.grown g6 (by rw [HS5.out, HS4.out]; omega) (.inl (by omega)))
  have HG6 := Lib.hid (HG5.out.grown g6 (by rw [HS5.out, HS4.out]; omega) (.inl (by omega)))
  have HT6 : Hid (Two5 ((w4.alloc (.cells #[.int .i64 h1.k, .slice h1.ka h1.kn h1.kc, .slice h1.va h1.vn h1.vc, .slice h1.da h1.dn h1.dc, .slice h1.ta h1.tn h1.tc, .int .i64 h2.k, .slice h2.ka h2.kn h2.kc, .slice h2.va h2.vn h2.vc, .slice h2.da h2.dn h2.dc, .slice h2.ta h2.tn h2.tc] 27)).setCell ⟨w.heap.size, 4, none⟩ (.slice (some ⟨w4.heap.size, 0, none⟩) 2 2)) 27 w4.heap.size h1 h2) := Lib.hid ((g6.block _ HT5.out.lt (fun q => by injection q with q; have := HZ4.out; have := HS4.out; omega)).trans HT5.out)
  have HS6 : Hid (w4.heap.size < ((w4.alloc (.cells #[.int .i64 h1.k, .slice h1.ka h1.kn h1.kc, .slice h1.va h1.vn h1.vc, .slice h1.da h1.dn h1.dc, .slice h1.ta h1.tn h1.tc, .int .i64 h2.k, .slice h2.ka h2.kn h2.kc, .slice h2.va h2.vn h2.vc, .slice h2.da h2.dn h2.dc, .slice h2.ta h2.tn h2.tc] 27)).setCell ⟨w.heap.size, 4, none⟩ (.slice (some ⟨w4.heap.size, 0, none⟩) 2 2)).heap.size) := Lib.hid HT6.out.lt
  clear g6
  generalize (w4.alloc (.cells #[.int .i64 h1.k, .slice h1.ka h1.kn h1.kc, .slice h1.va h1.vn h1.vc, .slice h1.da h1.dn h1.dc, .slice h1.ta h1.tn h1.tc, .int .i64 h2.k, .slice h2.ka h2.kn h2.kc, .slice h2.va h2.vn h2.vc, .slice h2.da h2.dn h2.dc, .slice h2.ta h2.tn h2.tc] 27)).setCell ⟨w.heap.size, 4, none⟩ (.slice (some ⟨w4.heap.size, 0, none⟩) 2 2) = w6 at *
  obtain ⟨x0, x1, x2, x3, x4⟩ := HP6.out.cells
  go_wp2_with (first
    | (refine wpList_store_box rfl 27 (.tmp 8) (.tmp 43) rfl (w.heap.size + 2) hZ ⟨kd, ka, kn, kc, va, vn, vc, da, dn, dc, some ⟨w4.heap.size, 0, none⟩, 2, 2⟩ rfl rfl 27 HR6.out infoTree5 ?_
       intro w9 hbx9 hg9
       have HX9 := Lib.hid hbx9
       have HN9 : Hid (FreshT lo w9.heap.size w9 ⟨kd, ka, kn, kc, va, vn, vc, da, dn, dc, some ⟨w4.heap.size, 0, none⟩, 2, 2⟩ (.mk kd key val dig [c1, c2])) := Lib.hid (by
         have z4 := HZ4.out
         have s4 := HS4.out
         have s6 := HS6.out
         have s9 := hg9.size
         have t9 : Two5 w9 27 w4.heap.size h1 h2 := (hg9.block _ HT6.out.lt (fun q => by injection q with q; omega)).trans HT6.out
         have bk : FreshB lo w.heap.size w9 ka kn kc key := (HFK.out.below HB6.out (Nat.le_refl _)).grown hg9 HB6.out.size (.inr (Nat.le_add_right _ _))
         have bv : FreshB lo w.heap.size w9 va vn vc val := (HFV.out.below HB6.out (Nat.le_refl _)).grown hg9 HB6.out.size (.inr (Nat.le_add_right _ _))
         have bd : FreshB lo w.heap.size w9 da dn dc dig := (HFD.out.below HB6.out (Nat.le_refl _)).grown hg9 HB6.out.size (.inr (Nat.le_add_right _ _))
         have u1 := HF6.out.grown hg9 (by omega) (.inl (by omega))
         have u2 := HG6.out.grown hg9 (by omega) (.inl (by omega))
         have l9 : w.heap.size ≤ w9.heap.size := Nat.le_trans HB6.out.size s9
         exact FreshT.node t9 (by omega) (by omega) (u1.wide (by omega) (by omega)) (u2.wide (by omega) (by omega)) hk1 hk2 (bk.wide (Nat.le_refl _) l9) (bv.wide (Nat.le_refl _) l9) (bd.wide (Nat.le_refl _) l9))
       have HB9 : Hid (Below w.heap.size w w9) := Lib.hid (HB6.out.grown hg9 HB6.out.size (fun j hj => by injection hj; omega))
       clear hbx9 hg9))
  exact bodyPost_ret (Box.result Tryd.results77 _ HX9.out rfl Tryd.underlying27 infoTree5) rfl ⟨_, rfl, HN9.out, HB9.out⟩

end Go.Proofs.YtlbiefddcimdgaaDoor

/- The contract of the program's proofs of balanced trees. -/
namespace Go.Proofs.YtlbiefddcimdgaaDoor
open Go.RowKit
set_option linter.unusedVariables false

theorem ZD.pcell7 {g : Nat} {W : World} {k : Nat} {sp : DH} (h : W.heap[g]? = some (.cells #[.int .i64 k, .slice sp.ka sp.kn sp.kc, .slice sp.va sp.vn sp.vc, .bool sp.out] 93 (0, 0))) : W.cell? ⟨g, 0, none⟩ = some (.int .i64 k) ∧ W.cell? ⟨g, 1, none⟩ = some (.slice sp.ka sp.kn sp.kc) ∧ W.cell? ⟨g, 2, none⟩ = some (.slice sp.va sp.vn sp.vc) ∧ W.cell? ⟨g, 3, none⟩ = some (.bool sp.out) := by
  refine ⟨?_, ?_, ?_, ?_⟩
  all_goals
    rw [cell_of_row W g _ _ _ (0, 0) h]
    rfl

set_option maxRecDepth 100000 in
set_option maxHeartbeats 4000000 in
theorem proof_any (k : Nat) (hk1 : 1 ≤ k) (hk2 : k ≤ 32) (sp : DH) (f tt : List Int) : ∀ (a : AT) (h : TH) (w : World), InTree w h a.tr → SpanIn w sp f tt → TabLies w → Lim a.pairs → a.depth ≤ 64 →
    Calls Tryd.prog 51 #[.agg #[.int .i64 k, .slice sp.ka sp.kn sp.kc, .slice sp.va sp.vn sp.vc, .bool sp.out], .agg #[.int .i64 h.k, .slice h.ka h.kn h.kc, .slice h.va h.vn h.vc, .slice h.da h.dn h.dc, .slice h.ta h.tn h.tc]] w (ProveOk w (showA k f tt sp.out a)) := by
  intro a
  induction a with
  | nil =>
    intro h w ht hs hT hl hd
    have HD := Lib.hid (ZD.enter w k sp h)
    obtain ⟨H, hp⟩ := ht.parts
    have e0 : (h.k == 0) = true := by rw [hp.hk]; rfl
    clear hp ht hs hT hl hd
    go_enter Tryd.func51, Tryd.ntmps51
    go_upto_region 1 with fail
    generalize (((w.alloc (.cells #[.int .i64 k, .slice sp.ka sp.kn sp.kc, .slice sp.va sp.vn sp.vc, .bool sp.out] 93)).alloc (.cells #[.int .i64 h.k, .slice h.ka h.kn h.kc, .slice h.va h.vn h.vc, .slice h.da h.dn h.dc, .slice h.ta h.tn h.tc] 27)).alloc (.cells #[.int .i64 0, .slice none 0 0, .slice none 0 0, .slice none 0 0, .slice none 0 0] 27)) = w0 at *
    obtain ⟨x0, x1, x2, x3, x4⟩ := HD.out.box.cells
    go_wp2_with (first
      | (refine wpList_store_box rfl 27 (.tmp 4) (.tmp 11) rfl (w.heap.size + 2) hZ hZ rfl rfl 27 HD.out.res infoTree5 ?_
         intro w9 hbx9 hg9
         have HX9 := Lib.hid hbx9
         have HB9 := Lib.hid (HD.out.wrote hg9).2.2
         clear hbx9 hg9))
    exact bodyPost_ret (Box.result Tryd.results51 _ HX9.out rfl Tryd.underlying27 infoTree5) rfl ⟨hZ, rfl, FreshT.nil _ _ _, HB9.out⟩
  | node l key v r ihl ihr =>
    intro h w ht hs hT hl hd
    have HLM := Lib.hid hl.node
    have HDE : Hid (l.depth ≤ 64 ∧ r.depth ≤ 64) := Lib.hid (by
      have q : (AT.node l key v r).depth = max l.depth r.depth + 1 := rfl
      omega)
    have HIHL : Hid (∀ (hh : TH) (W : World), InTree W hh l.tr → SpanIn W sp f tt → TabLies W → Calls Tryd.prog 51 #[.agg #[.int .i64 k, .slice sp.ka sp.kn sp.kc, .slice sp.va sp.vn sp.vc, .bool sp.out], .agg #[.int .i64 hh.k, .slice hh.ka hh.kn hh.kc, .slice hh.va hh.vn hh.vc, .slice hh.da hh.dn hh.dc, .slice hh.ta hh.tn hh.tc]] W (ProveOk W (showA k f tt sp.out l))) := Lib.hid (fun hh W q1 q2 q3 => ihl hh W q1 q2 q3 hl.node.1 (by
      have q : (AT.node l key v r).depth = max l.depth r.depth + 1 := rfl
      omega))
    have HIHR : Hid (∀ (hh : TH) (W : World), InTree W hh r.tr → SpanIn W sp f tt → TabLies W → Calls Tryd.prog 51 #[.agg #[.int .i64 k, .slice sp.ka sp.kn sp.kc, .slice sp.va sp.vn sp.vc, .bool sp.out], .agg #[.int .i64 hh.k, .slice hh.ka hh.kn hh.kc, .slice hh.va hh.vn hh.vc, .slice hh.da hh.dn hh.dc, .slice hh.ta hh.tn hh.tc]] W (ProveOk W (showA k f tt sp.out r))) := Lib.hid (fun hh W q1 q2 q3 => ihr hh W q1 q2 q3 hl.node.2.2.2 (by
      have q : (AT.node l key v r).depth = max l.depth r.depth + 1 := rfl
      omega))
    have HD := Lib.hid (ZD.enter w k sp h)
    have HSP := Lib.hid hs
    have HTT := Lib.hid hT
    have HTI := Lib.hid ht
    obtain ⟨H, hp⟩ := ht.parts
    have e0 : (h.k == 0) = false := by rw [hp.hk]; rfl
    have HTN : Hid (h.tn = 2) := Lib.hid hp.len.symm
    have hkn : h.kn ≤ 80 := by rw [← hp.key.len]; exact hl.node.2.1
    have hvn : h.vn ≤ 1024 := by rw [← hp.val.len]; exact hl.node.2.2.1
    have HP := Lib.hid hp
    have l0 : 0 < (AT.node l key v r).tr.kids.length := by rw [AT.tr_kids]; exact Nat.zero_lt_two
    have l1 : 1 < (AT.node l key v r).tr.kids.length := by rw [AT.tr_kids]; exact Nat.one_lt_two
    have hmf : ∀ (fn : Fn) (first cap : Array Value) (w : World), (Instr.makeFunc fn first cap).run Tryd.prog w = .ok (.func fn first cap) w := fun _ _ _ _ => rfl
    clear hp ht hl hd hT hs ihl ihr
    go_enter Tryd.func51, Tryd.ntmps51
    go_upto_region 1 with fail
    generalize (((w.alloc (.cells #[.int .i64 k, .slice sp.ka sp.kn sp.kc, .slice sp.va sp.vn sp.vc, .bool sp.out] 93)).alloc (.cells #[.int .i64 h.k, .slice h.ka h.kn h.kc, .slice h.va h.vn h.vc, .slice h.da h.dn h.dc, .slice h.ta h.tn h.tc] 27)).alloc (.cells #[.int .i64 0, .slice none 0 0, .slice none 0 0, .slice none 0 0, .slice none 0 0] 27)) = w0 at *
    obtain ⟨x0, x1, x2, x3, x4⟩ := HD.out.box.cells
    obtain ⟨y0, y1, y2, y3⟩ := HD.out.pcell
    cases hin : inS f tt sp.out key with
    | true =>
      have HIN := Lib.hid hin
      have HSH : Hid (showA k f tt sp.out (.node l key v r) = _) := Lib.hid (show_in hin)
      clear hin
      go_upto_region 4 with (first
        | (go_at_call 22
           refine (scanIn_any sp f tt key h.ka h.kn h.kc _ (HSP.out.below HD.out.b) ((HP.out.below HD.out.b).key)).mono ?_
           rintro _ w3 ⟨rfl, hb3⟩
           have HD3 := Lib.hid (HD.out.below hb3)
           rw [HIN.out]
           clear hb3 x0 x1 x2 x3 x4 y0 y1 y2 y3))
      have HD4 := Lib.hid HD3.out.drew
      refine wp_region_held_drew (S := (fun W => (W.cell? ⟨w.heap.size + 1, 0, none⟩ = some (.int .i64 h.k) ∧ W.cell? ⟨w.heap.size + 1, 1, none⟩ = some (.slice h.ka h.kn h.kc) ∧ W.cell? ⟨w.heap.size + 1, 2, none⟩ = some (.slice h.va h.vn h.vc) ∧ W.cell? ⟨w.heap.size + 1, 3, none⟩ = some (.slice h.da h.dn h.dc) ∧ W.cell? ⟨w.heap.size + 1, 4, none⟩ = some (.slice h.ta h.tn h.tc)) ∧ (W.cell? ⟨w.heap.size, 0, none⟩ = some (.int .i64 k) ∧ W.cell? ⟨w.heap.size, 1, none⟩ = some (.slice sp.ka sp.kn sp.kc) ∧ W.cell? ⟨w.heap.size, 2, none⟩ = some (.slice sp.va sp.vn sp.vc) ∧ W.cell? ⟨w.heap.size, 3, none⟩ = some (.bool sp.out)))) (by kernel_rfl) (by first | exact ⟨HD4.out.box.cells, HD4.out.pcell⟩) (fun hHeld => ?_)
      refine take_w (i := 0) (oi := ?oZ20) (v := ?vZ20) ?hiZ20 (by kernel_rfl) (by kernel_rfl) (by kernel_rfl) ?hQZ20 ?hwZ20 ?hyZ20 (by assumption) ?restZ20
      case hiZ20 => (simp only [List.getElem?_toArray, List.getElem?_cons_zero] <;> rfl)
      case hQZ20 => exact (fun _ _ _ h => h)
      case hwZ20 => rfl
      case hyZ20 => (intro w hSw; (try dsimp only at hSw); go_simp; try with_reducible rfl)
      (try simp only [Act.put, List.setIfInBounds_toArray, List.set_cons_zero, List.set_cons_succ])
      refine take_w (i := 2) (oi := ?oZ21) (v := ?vZ21) ?hiZ21 (by kernel_rfl) (by kernel_rfl) (by kernel_rfl) ?hQZ21 ?hwZ21 ?hyZ21 (by assumption) ?restZ21
      case hiZ21 => (simp only [List.getElem?_toArray, List.getElem?_cons_succ, List.getElem?_cons_zero] <;> rfl)
      case hQZ21 => exact (fun _ _ _ h => h)
      case hwZ21 => rfl
      case hyZ21 => (intro w hSw; (try dsimp only at hSw); go_simp; try with_reducible rfl)
      (try simp only [Act.put, List.setIfInBounds_toArray, List.set_cons_zero, List.set_cons_succ])
      refine take_w (i := 3) (oi := ?oZ22) (v := ?vZ22) ?hiZ22 (by kernel_rfl) (by kernel_rfl) (by kernel_rfl) ?hQZ22 ?hwZ22 ?hyZ22 (by assumption) ?restZ22
      case hiZ22 => (simp only [List.getElem?_toArray, List.getElem?_cons_succ, List.getElem?_cons_zero] <;> rfl)
      case hQZ22 => exact (fun _ _ _ h => h)
      case hwZ22 => rfl
      case hyZ22 => (intro w hSw; (try dsimp only at hSw); go_simp; try with_reducible rfl)
      (try simp only [Act.put, List.setIfInBounds_toArray, List.set_cons_zero, List.set_cons_succ])
      refine take_w (i := 5) (oi := ?oZ23) (v := ?vZ23) ?hiZ23 (by kernel_rfl) (by kernel_rfl) (by kernel_rfl) ?hQZ23 ?hwZ23 ?hyZ23 (by assumption) ?restZ23
      case hiZ23 => (simp only [List.getElem?_toArray, List.getElem?_cons_succ, List.getElem?_cons_zero] <;> rfl)
      case hQZ23 => exact (fun _ _ _ h => h)
      case hwZ23 => rfl
      case hyZ23 => (intro w hSw; (try dsimp only at hSw); go_simp; try with_reducible rfl)
      (try simp only [Act.put, List.setIfInBounds_toArray, List.set_cons_zero, List.set_cons_succ])
      refine take_w (i := 4) (oi := ?oZ24) (v := ?vZ24) ?hiZ24 (by kernel_rfl) (by kernel_rfl) (by kernel_rfl) ?hQZ24 ?hwZ24 ?hyZ24 (by assumption) ?restZ24
      case hiZ24 => (simp only [List.getElem?_toArray, List.getElem?_cons_succ, List.getElem?_cons_zero] <;> rfl)
      case hQZ24 => exact (fun _ _ _ h => h)
      case hwZ24 => rfl
      case hyZ24 => (intro w hSw; (try dsimp only at hSw); go_simp; try with_reducible rfl)
      (try simp only [Act.put, List.setIfInBounds_toArray, List.set_cons_zero, List.set_cons_succ])
      refine take_w (i := 6) (oi := ?oZ25) (v := ?vZ25) ?hiZ25 (by kernel_rfl) (by kernel_rfl) (by kernel_rfl) ?hQZ25 ?hwZ25 ?hyZ25 (by assumption) ?restZ25
      case hiZ25 => (simp only [List.getElem?_toArray, List.getElem?_cons_succ, List.getElem?_cons_zero] <;> rfl)
      case hQZ25 => exact (fun _ _ _ h => h)
      case hwZ25 => rfl
      case hyZ25 => (intro w hSw; (try dsimp only at hSw); go_simp; try with_reducible rfl)
      (try simp only [Act.put, List.setIfInBounds_toArray, List.set_cons_zero, List.set_cons_succ])
      refine wpAnyH_ready (rs := [1]) (by kernel_rfl) (by simp) ?_
      refine AllReadyH.cons (o := ?oZ26) ?hiZ26 (fun K hK => ?stZ26) AllReadyH.nil
      case hiZ26 => (simp only [List.getElem?_toArray, List.getElem?_cons_succ, List.getElem?_cons_zero] <;> rfl)
      go_simp
      go_at_call 78
      (with_reducible refine (shown_lit l key v r h _ ?_ (by omega) (by omega)).mono ?_)
      · exact HTI.out.lower HD4.out.b
      rintro _ w5 ⟨a1, c1, a2, c2, rfl, fk, fv, hb5⟩
      unfold TH.v
      have HD5 := Lib.hid (HD4.out.below hb5)
      have HK5 : Hid (FreshB (w.heap.size + 3) w5.heap.size w5 a1 key.length c1 key) := Lib.hid (fk.wide HD4.out.sz (Nat.le_refl _))
      have HV5 : Hid (FreshB (w.heap.size + 3) w5.heap.size w5 a2 v.length c2 v) := Lib.hid (fv.wide HD4.out.sz (Nat.le_refl _))
      clear fk fv hb5
      go_simp
      refine hK.out _ _ ?_ (fun hHeld => ?_)
      · (first | exact ⟨HW9.out.2.1.cells, ZD.pcell7 HW9.out.1⟩ | exact ⟨HD7.out.box.cells, HD7.out.pcell⟩ | exact ⟨HD5.out.box.cells, HD5.out.pcell⟩ | exact ⟨HD4.out.box.cells, HD4.out.pcell⟩)
      clear hK K
      (try simp only [Act.put, List.setIfInBounds_toArray, List.set_cons_zero, List.set_cons_succ])
      refine wpAnyH_ready (rs := [7]) (by kernel_rfl) (by simp) ?_
      refine AllReadyH.cons (o := ?oZ27) ?hiZ27 (fun K hK => ?stZ27) AllReadyH.nil
      case hiZ27 => (simp only [List.getElem?_toArray, List.getElem?_cons_succ, List.getElem?_cons_zero] <;> rfl)
      go_simp
      go_at_call 77
      (with_reducible refine (withKids_pp k sp 1 (by omega) (by omega) a1 a2 none key.length c1 v.length c2 0 0 key v [] (showA k f tt sp.out l) (showA k f tt sp.out r) h (AT.node l key v r).tr H _ (w.heap.size + 3) HD5.out.sz ?_ ?_ ?_ ?_ HTN.out ?_ ?_).mono ?_)
      · exact HK5.out
      · exact HV5.out
      · exact FreshB.none _ _ _
      · exact HP.out.below HD5.out.b
      · exact (fun W hW => HIHL.out (H 0) W (((HP.out.below HD5.out.b).kids 0 l0).lower hW) ((HSP.out.below HD5.out.b).below hW) ((HTT.out.below HD5.out.b (Nat.le_refl _)).below hW (Nat.le_refl _)))
      · exact (fun W hW => HIHR.out (H 1) W (((HP.out.below HD5.out.b).kids 1 l1).lower hW) ((HSP.out.below HD5.out.b).below hW) ((HTT.out.below HD5.out.b (Nat.le_refl _)).below hW (Nat.le_refl _)))
      rintro _ w7 ⟨h7, rfl, f7, hb7⟩
      unfold TH.v
      have HD7 := Lib.hid (HD5.out.below hb7)
      have HF7 := Lib.hid f7
      clear f7 hb7
      go_simp
      refine hK.out _ _ ?_ (fun hHeld => ?_)
      · (first | exact ⟨HW9.out.2.1.cells, ZD.pcell7 HW9.out.1⟩ | exact ⟨HD7.out.box.cells, HD7.out.pcell⟩ | exact ⟨HD5.out.box.cells, HD5.out.pcell⟩ | exact ⟨HD4.out.box.cells, HD4.out.pcell⟩)
      clear hK K
      (try simp only [Act.put, List.setIfInBounds_toArray, List.set_cons_zero, List.set_cons_succ])
      refine take_w (i := 8) (oi := ?oZ28) (v := ?vZ28) ?hiZ28 (by kernel_rfl) (by kernel_rfl) (by kernel_rfl) ?hQZ28 ?hwZ28 ?hyZ28 (by assumption) ?restZ28
      case hiZ28 => (simp only [List.getElem?_toArray, List.getElem?_cons_succ, List.getElem?_cons_zero] <;> rfl)
      case hQZ28 => exact (fun _ _ _ h => h)
      case hwZ28 => rfl
      case hyZ28 => (intro w hSw; (try dsimp only at hSw); go_simp; try with_reducible rfl)
      (try simp only [Act.put, List.setIfInBounds_toArray, List.set_cons_zero, List.set_cons_succ])
      refine take_w (i := 9) (oi := ?oZ29) (v := ?vZ29) ?hiZ29 (by kernel_rfl) (by kernel_rfl) (by kernel_rfl) ?hQZ29 ?hwZ29 ?hyZ29 (by assumption) ?restZ29
      case hiZ29 => (simp only [List.getElem?_toArray, List.getElem?_cons_succ, List.getElem?_cons_zero] <;> rfl)
      case hQZ29 => exact (fun _ _ _ h => h)
      case hwZ29 => rfl
      case hyZ29 => (intro w hSw; (try dsimp only at hSw); go_simp; try with_reducible rfl)
      (try simp only [Act.put, List.setIfInBounds_toArray, List.set_cons_zero, List.set_cons_succ])
      refine wpAnyH_ready (rs := [10]) (by kernel_rfl) (by simp) ?_
      refine AllReadyH.cons (o := ?oZ30) ?hiZ30 (fun K hK => ?stZ30) AllReadyH.nil
      case hiZ30 => (simp only [List.getElem?_toArray, List.getElem?_cons_succ, List.getElem?_cons_zero] <;> rfl)
      refine step_store_box rfl 27 (.tmp 4) (.tmp 25) rfl (w.heap.size + 2) hZ h7 rfl rfl 27 HD7.out.res infoTree5 ?_
      intro w9 hbx9 hg9
      have HX9 := Lib.hid hbx9
      have HF9 : Hid (FreshT w.heap.size w9.heap.size w9 h7 (showA k f tt sp.out (.node l key v r))) := Lib.hid (by
        rw [HSH.out]
        exact (HF7.out.grown hg9 (Nat.le_refl _) (.inl (Nat.lt_succ_self _))).wide (Nat.le_add_right _ _) hg9.size)
      have HW9 := Lib.hid (HD7.out.wrote hg9)
      clear hbx9 hg9
      refine hK.out _ _ ?_ (fun hHeld => ?_)
      · (first | exact ⟨HW9.out.2.1.cells, ZD.pcell7 HW9.out.1⟩ | exact ⟨HD7.out.box.cells, HD7.out.pcell⟩ | exact ⟨HD5.out.box.cells, HD5.out.pcell⟩ | exact ⟨HD4.out.box.cells, HD4.out.pcell⟩)
      clear hK K
      (try simp only [Act.put])
      refine wpAnyH_ready (rs := [11]) (by kernel_rfl) (by simp) ?_
      refine AllReadyH.cons (o := ?oZ31) ?hiZ31 (fun K hK => ?stZ31) AllReadyH.nil
      case hiZ31 => (simp only [List.getElem?_toArray, List.getElem?_cons_succ, List.getElem?_cons_zero] <;> rfl)
      go_simp
      refine hK.out _ _ ?_ (fun hHeld => ?_)
      · (first | exact ⟨HW9.out.2.1.cells, ZD.pcell7 HW9.out.1⟩ | exact ⟨HD7.out.box.cells, HD7.out.pcell⟩ | exact ⟨HD5.out.box.cells, HD5.out.pcell⟩ | exact ⟨HD4.out.box.cells, HD4.out.pcell⟩)
      clear hK K
      (try simp only [Act.put, List.setIfInBounds_toArray, List.set_cons_zero, List.set_cons_succ])
      refine wpAnyH_done (by kernel_rfl) ?_ _
      clear hHeld
      go_wp2_with fail
      exact bodyPost_ret (Box.result Tryd.results51 _ HX9.out rfl Tryd.underlying27 infoTree5) rfl ⟨_, rfl, HF9.out, HW9.out.2.2⟩
    | false =>
      have HIN := Lib.hid hin
      clear hin
      go_upto_region 5 with (first
        | (go_at_call 22
           refine (scanIn_any sp f tt key h.ka h.kn h.kc _ (HSP.out.below HD.out.b) ((HP.out.below HD.out.b).key)).mono ?_
           rintro _ w3 ⟨rfl, hb3⟩
           have HD3 := Lib.hid (HD.out.below hb3)
           rw [HIN.out]
           clear hb3 x0 x1 x2 x3 x4 y0 y1 y2 y3))
      obtain ⟨x0, x1, x2, x3, x4⟩ := HD3.out.box.cells
      obtain ⟨y0, y1, y2, y3⟩ := HD3.out.pcell
      go_upto_region 8 with (first
        | (go_at_call 79
           (with_reducible refine (dark_lit k hk1 hk2 sp l key v r h _ ?_ ?_ (by omega) (by omega)).mono ?_)
           · exact HTI.out.lower HD3.out.b
           · exact HTT.out.below HD3.out.b (Nat.le_refl _)
           rintro _ w4 ⟨a1, c1, a2, c2, rfl, fk, fv, hb4⟩
           unfold TH.v
           have HD4 := Lib.hid (HD3.out.below hb4)
           have HK4 : Hid (FreshB (w.heap.size + 3) w4.heap.size w4 a1 key.length c1 key) := Lib.hid (fk.wide HD3.out.sz (Nat.le_refl _))
           have HV4 : Hid (FreshB (w.heap.size + 3) w4.heap.size w4 a2 k c2 (dvL k v)) := Lib.hid (fv.wide HD3.out.sz (Nat.le_refl _))
           clear fk fv hb4 x0 x1 x2 x3 x4 y0 y1 y2 y3))
      have q5 : Below w4.heap.size w4 (w4.alloc (.cells #[.int .i64 2, .slice a1 key.length c1, .slice none 0 0, .slice a2 k c2, .slice none 0 0] 27)) := (Below.refl _ _).alloc (Nat.le_refl _) _
      have HD5 := Lib.hid (HD4.out.below q5)
      have HX5 : Hid (Box (w4.alloc (.cells #[.int .i64 2, .slice a1 key.length c1, .slice none 0 0, .slice a2 k c2, .slice none 0 0] 27)) 27 w4.heap.size ⟨2, a1, key.length, c1, none, 0, 0, a2, k, c2, none, 0, 0⟩) := Lib.hid (Box.new w4 27 ⟨2, a1, key.length, c1, none, 0, 0, a2, k, c2, none, 0, 0⟩)
      have HK5 : Hid (FreshB (w.heap.size + 3) (w4.alloc (.cells #[.int .i64 2, .slice a1 key.length c1, .slice none 0 0, .slice a2 k c2, .slice none 0 0] 27)).heap.size (w4.alloc (.cells #[.int .i64 2, .slice a1 key.length c1, .slice none 0 0, .slice a2 k c2, .slice none 0 0] 27)) a1 key.length c1 key) := Lib.hid ((HK4.out.below q5 (Nat.le_refl _)).wide (Nat.le_refl _) q5.size)
      have HV5 : Hid (FreshB (w.heap.size + 3) (w4.alloc (.cells #[.int .i64 2, .slice a1 key.length c1, .slice none 0 0, .slice a2 k c2, .slice none 0 0] 27)).heap.size (w4.alloc (.cells #[.int .i64 2, .slice a1 key.length c1, .slice none 0 0, .slice a2 k c2, .slice none 0 0] 27)) a2 k c2 (dvL k v)) := Lib.hid ((HV4.out.below q5 (Nat.le_refl _)).wide (Nat.le_refl _) q5.size)
      clear q5
      generalize w4.alloc (.cells #[.int .i64 2, .slice a1 key.length c1, .slice none 0 0, .slice a2 k c2, .slice none 0 0] 27) = w5 at *
      obtain ⟨x0, x1, x2, x3, x4⟩ := HD5.out.box.cells
      obtain ⟨y0, y1, y2, y3⟩ := HD5.out.pcell
      obtain ⟨z0, z1, z2, z3, z4⟩ := HX5.out.cells
      cases hlt : ltL key f with
      | true =>
        have HSH : Hid (showA k f tt sp.out (.node l key v r) = _) := Lib.hid (show_lt HIN.out hlt)
        have HO := Lib.hid (ordL_lt hlt)
        clear hlt
        go_wp2_with (first
          | (go_at_call 52
             (with_reducible refine (compare_any key f h.ka sp.ka h.kn sp.kn h.kc sp.kc _ ?_ ?_).mono ?_)
             · exact (HP.out.below HD5.out.b).key
             · exact (HSP.out.below HD5.out.b).f
             rintro _ w6 ⟨rfl, hw6⟩
             rw [hw6]
             clear hw6
             rw [HO.out])
          | (go_at_call 77
             (with_reducible refine (withKids_cp k sp 2 (by omega) (by omega) a1 none a2 key.length c1 0 0 k c2 key [] (dvL k v) (hideA k l) (showA k f tt sp.out r) h (AT.node l key v r).tr H _ (w.heap.size + 3) HD5.out.sz ?_ ?_ ?_ ?_ HTN.out ?_ ?_).mono ?_)
             · exact HK5.out
             · exact FreshB.none _ _ _
             · exact HV5.out
             · exact HP.out.below HD5.out.b
             · exact (fun W hW => cut_lit7 k hk1 hk2 sp l (H 0) W (((HP.out.below HD5.out.b).kids 0 l0).lower hW) ((HTT.out.below HD5.out.b (Nat.le_refl _)).below hW (Nat.le_refl _)) HLM.out.1 HDE.out.1)
             · exact (fun W hW => HIHR.out (H 1) W (((HP.out.below HD5.out.b).kids 1 l1).lower hW) ((HSP.out.below HD5.out.b).below hW) ((HTT.out.below HD5.out.b (Nat.le_refl _)).below hW (Nat.le_refl _)))
             rintro _ w7 ⟨h7, rfl, f7, hb7⟩
             unfold TH.v
             have HD7 := Lib.hid (HD5.out.below hb7)
             have HF7 := Lib.hid f7
             clear f7 hb7
             clear x0 x1 x2 x3 x4 y0 y1 y2 y3 z0 z1 z2 z3 z4)
          | (refine wpList_store_box rfl 27 (.tmp 4) (.tmp 51) rfl (w.heap.size + 2) hZ h7 rfl rfl 27 HD7.out.res infoTree5 ?_
             intro w9 hbx9 hg9
             have HX9 := Lib.hid hbx9
             have HF9 : Hid (FreshT w.heap.size w9.heap.size w9 h7 (showA k f tt sp.out (.node l key v r))) := Lib.hid (by
               rw [HSH.out]
               exact (HF7.out.grown hg9 (Nat.le_refl _) (.inl (Nat.lt_succ_self _))).wide (Nat.le_add_right _ _) hg9.size)
             have HW9 := Lib.hid (HD7.out.wrote hg9)
             clear hbx9 hg9))
        exact bodyPost_ret (Box.result Tryd.results51 _ HX9.out rfl Tryd.underlying27 infoTree5) rfl ⟨_, rfl, HF9.out, HW9.out.2.2⟩
      | false =>
        have HSH : Hid (showA k f tt sp.out (.node l key v r) = _) := Lib.hid (show_ge HIN.out hlt)
        have HO : Hid (ordL key f = 0 ∨ ordL key f = 1) := Lib.hid (by
          rcases ord_is key f with ⟨q, -⟩ | ⟨-, q⟩ | ⟨-, q⟩
          · rw [hlt] at q; cases q
          · exact .inl q
          · exact .inr q)
        clear hlt
        rcases HO.out with q | q
        · have HO := Lib.hid q
          clear q
          go_wp2_with (first
            | (go_at_call 52
               (with_reducible refine (compare_any key f h.ka sp.ka h.kn sp.kn h.kc sp.kc _ ?_ ?_).mono ?_)
               · exact (HP.out.below HD5.out.b).key
               · exact (HSP.out.below HD5.out.b).f
               rintro _ w6 ⟨rfl, hw6⟩
               rw [hw6]
               clear hw6
               rw [HO.out])
            | (go_at_call 77
               (with_reducible refine (withKids_pc k sp 2 (by omega) (by omega) a1 none a2 key.length c1 0 0 k c2 key [] (dvL k v) (showA k f tt sp.out l) (hideA k r) h (AT.node l key v r).tr H _ (w.heap.size + 3) HD5.out.sz ?_ ?_ ?_ ?_ HTN.out ?_ ?_).mono ?_)
               · exact HK5.out
               · exact FreshB.none _ _ _
               · exact HV5.out
               · exact HP.out.below HD5.out.b
               · exact (fun W hW => HIHL.out (H 0) W (((HP.out.below HD5.out.b).kids 0 l0).lower hW) ((HSP.out.below HD5.out.b).below hW) ((HTT.out.below HD5.out.b (Nat.le_refl _)).below hW (Nat.le_refl _)))
               · exact (fun W hW => cut_lit7 k hk1 hk2 sp r (H 1) W (((HP.out.below HD5.out.b).kids 1 l1).lower hW) ((HTT.out.below HD5.out.b (Nat.le_refl _)).below hW (Nat.le_refl _)) HLM.out.2.2.2 HDE.out.2)
               rintro _ w7 ⟨h7, rfl, f7, hb7⟩
               unfold TH.v
               have HD7 := Lib.hid (HD5.out.below hb7)
               have HF7 := Lib.hid f7
               clear f7 hb7
               clear x0 x1 x2 x3 x4 y0 y1 y2 y3 z0 z1 z2 z3 z4)
            | (refine wpList_store_box rfl 27 (.tmp 4) (.tmp 60) rfl (w.heap.size + 2) hZ h7 rfl rfl 27 HD7.out.res infoTree5 ?_
               intro w9 hbx9 hg9
               have HX9 := Lib.hid hbx9
               have HF9 : Hid (FreshT w.heap.size w9.heap.size w9 h7 (showA k f tt sp.out (.node l key v r))) := Lib.hid (by
                 rw [HSH.out]
                 exact (HF7.out.grown hg9 (Nat.le_refl _) (.inl (Nat.lt_succ_self _))).wide (Nat.le_add_right _ _) hg9.size)
               have HW9 := Lib.hid (HD7.out.wrote hg9)
               clear hbx9 hg9))
          exact bodyPost_ret (Box.result Tryd.results51 _ HX9.out rfl Tryd.underlying27 infoTree5) rfl ⟨_, rfl, HF9.out, HW9.out.2.2⟩
        · have HO := Lib.hid q
          clear q
          go_wp2_with (first
            | (go_at_call 52
               (with_reducible refine (compare_any key f h.ka sp.ka h.kn sp.kn h.kc sp.kc _ ?_ ?_).mono ?_)
               · exact (HP.out.below HD5.out.b).key
               · exact (HSP.out.below HD5.out.b).f
               rintro _ w6 ⟨rfl, hw6⟩
               rw [hw6]
               clear hw6
               rw [HO.out])
            | (go_at_call 77
               (with_reducible refine (withKids_pc k sp 2 (by omega) (by omega) a1 none a2 key.length c1 0 0 k c2 key [] (dvL k v) (showA k f tt sp.out l) (hideA k r) h (AT.node l key v r).tr H _ (w.heap.size + 3) HD5.out.sz ?_ ?_ ?_ ?_ HTN.out ?_ ?_).mono ?_)
               · exact HK5.out
               · exact FreshB.none _ _ _
               · exact HV5.out
               · exact HP.out.below HD5.out.b
               · exact (fun W hW => HIHL.out (H 0) W (((HP.out.below HD5.out.b).kids 0 l0).lower hW) ((HSP.out.below HD5.out.b).below hW) ((HTT.out.below HD5.out.b (Nat.le_refl _)).below hW (Nat.le_refl _)))
               · exact (fun W hW => cut_lit7 k hk1 hk2 sp r (H 1) W (((HP.out.below HD5.out.b).kids 1 l1).lower hW) ((HTT.out.below HD5.out.b (Nat.le_refl _)).below hW (Nat.le_refl _)) HLM.out.2.2.2 HDE.out.2)
               rintro _ w7 ⟨h7, rfl, f7, hb7⟩
               unfold TH.v
               have HD7 := Lib.hid (HD5.out.below hb7)
               have HF7 := Lib.hid f7
               clear f7 hb7
               clear x0 x1 x2 x3 x4 y0 y1 y2 y3 z0 z1 z2 z3 z4)
            | (refine wpList_store_box rfl 27 (.tmp 4) (.tmp 60) rfl (w.heap.size + 2) hZ h7 rfl rfl 27 HD7.out.res infoTree5 ?_
               intro w9 hbx9 hg9
               have HX9 := Lib.hid hbx9
               have HF9 : Hid (FreshT w.heap.size w9.heap.size w9 h7 (showA k f tt sp.out (.node l key v r))) := Lib.hid (by
                 rw [HSH.out]
                 exact (HF7.out.grown hg9 (Nat.le_refl _) (.inl (Nat.lt_succ_self _))).wide (Nat.le_add_right _ _) hg9.size)
               have HW9 := Lib.hid (HD7.out.wrote hg9)
               clear hbx9 hg9))
          exact bodyPost_ret (Box.result Tryd.results51 _ HX9.out rfl Tryd.underlying27 infoTree5) rfl ⟨_, rfl, HF9.out, HW9.out.2.2⟩
end Go.Proofs.YtlbiefddcimdgaaDoor

/- The contract of the program's depth of full trees. -/
namespace Go.Proofs.YtlbiefddcimdgaaDoor
open Go.RowKit
set_option linter.unusedVariables false

/-- The depth of a balanced tree; -1 of any other. -/
def AT.dep : AT → Int
  | .nil => 0
  | .node l _ _ r => if l.dep = -1 then -1 else if r.dep = -1 ∨ 1 < l.dep - r.dep ∨ 1 < r.dep - l.dep then -1 else 1 + max l.dep r.dep
theorem AT.dep_node (l : AT) (k v : List Int) (r : AT) : (AT.node l k v r).dep = if l.dep = -1 then -1 else if r.dep = -1 ∨ 1 < l.dep - r.dep ∨ 1 < r.dep - l.dep then -1 else 1 + max l.dep r.dep := rfl
theorem AT.dep_iff : ∀ a : AT, (a.bal ∧ a.dep = a.depth) ∨ (¬ a.bal ∧ a.dep = -1) := by
  intro a
  induction a with
  | nil => exact .inl ⟨trivial, rfl⟩
  | node l k v r ihl ihr =>
    rw [AT.dep_node]
    simp only [AT.bal, AT.depth]
    rcases ihl with ⟨b1, e1⟩ | ⟨b1, e1⟩
    · rcases ihr with ⟨b2, e2⟩ | ⟨b2, e2⟩
      · rw [e1, e2]
        by_cases c : l.depth ≤ r.depth + 1 ∧ r.depth ≤ l.depth + 1
        · left
          refine ⟨⟨b1, b2, c⟩, ?_⟩
          rw [if_neg (by omega), if_neg (by omega)]
          omega
        · right
          refine ⟨fun q => c q.2.2, ?_⟩
          rw [if_neg (by omega), if_pos (by omega)]
      · right
        refine ⟨fun q => b2 q.2.1, ?_⟩
        rw [e1, e2, if_neg (by omega), if_pos (.inl rfl)]
    · right
      exact ⟨fun q => b1 q.1, if_pos e1⟩
theorem AT.dep_bal {a : AT} (h : a.bal) : a.dep = a.depth := by
  rcases AT.dep_iff a with q | q
  · exact q.2
  · exact absurd h q.1
theorem AT.dep_le (a : AT) : -1 ≤ a.dep ∧ a.dep ≤ a.depth := by
  rcases AT.dep_iff a with q | q
  · omega
  · omega
set_option maxRecDepth 100000 in
set_option maxHeartbeats 4000000 in
theorem prDepth_any : ∀ (a : AT) (h : TH) (w : World), InTree w h a.tr → a.depth ≤ 1000 → Calls Tryd.prog 76 #[h.v] w (Says w (.int .i64 a.dep)) := by
  intro a
  induction a with
  | nil =>
    intro h w ht _
    unfold TH.v
    obtain ⟨H, hp⟩ := ht.parts
    have hk0 : (h.k == 0) = true := by have h2 : h.k = 0 := hp.hk; simp [h2]
    have hbox := Box.new w 27 h
    obtain ⟨x0, x1, x2, x3, x4⟩ := hbox.cells
    have HB : Hid (Below w.heap.size w (w.alloc (.cells #[.int .i64 h.k, .slice h.ka h.kn h.kc, .slice h.va h.vn h.vc, .slice h.da h.dn h.dc, .slice h.ta h.tn h.tc] 27))) := Lib.hid ((Below.refl _ _).alloc (Nat.le_refl _) _)
    clear hp ht hbox
    go_enter Tryd.func76, Tryd.ntmps76
    go_wp2_with fail
    go_ret
    exact ⟨rfl, HB.out⟩
  | node l k v r ihl ihr =>
    intro h w ht hd
    unfold TH.v
    obtain ⟨H, hp⟩ := ht.parts
    have l0 : 0 < (AT.node l k v r).tr.kids.length := by rw [AT.tr_kids]; simp
    have l1 : 1 < (AT.node l k v r).tr.kids.length := by rw [AT.tr_kids]; simp
    have ht1 : (1 : Int) < (h.tn : Int) := by have h2 : h.tn = 2 := hp.len.symm; omega
    have ht0 : 0 < h.tn := by omega
    have hk0 : (h.k == 0) = false := by have h2 : h.k = 1 := hp.hk; simp [h2]
    simp only [AT.depth] at hd
    have hdl : l.depth ≤ 1000 := by omega
    have hdr : r.depth ≤ 1000 := by omega
    have bl := l.dep_le
    have br := r.dep_le
    have HE0 := Lib.hid (AT.dep_node l k v r)
    have HP := Lib.hid hp
    have IHL := Lib.hid ihl
    have IHR := Lib.hid ihr
    obtain ⟨g, off, hta, -, -⟩ := hp.place (by omega)
    have HTA := Lib.hid hta
    have HD0 := Lib.hid (BW.new w ht)
    clear hp ht ihl ihr hta
    go_enter Tryd.func76, Tryd.ntmps76
    go_upto_region 1 with fail
    generalize w.alloc (.cells #[.int .i64 h.k, .slice h.ka h.kn h.kc, .slice h.va h.vn h.vc, .slice h.da h.dn h.dc, .slice h.ta h.tn h.tc] 27) = w0 at *
    obtain ⟨x0, x1, x2, x3, x4⟩ := HD0.out.box.cells
    rw [HTA.out] at x4
    obtain ⟨k0, k1, k2, k3, k4⟩ := (HP.out.below HD0.out.b).kid0 HTA.out (by omega)
    go_upto_region 4 with (first
        | (go_at_call 76
           refine (IHL.out (H 0) _ ((HP.out.below HD0.out.b).kids 0 l0) (by omega)).mono ?_
           rintro _ w1 ⟨rfl, hb1⟩
           have HD1 := Lib.hid (HD0.out.below hb1)
           clear hb1))
    clear x0 x1 x2 x3 x4 k0 k1 k2 k3 k4
    generalize l.dep = d0 at *
    by_cases c0 : d0 = -1
    · have HE := Lib.hid (HE0.out.trans (if_pos c0))
      clear HE0
      subst c0
      go_wp2_with fail
      go_ret
      exact ⟨by rw [HE.out]; rfl, HD1.out.b⟩
    have HE1 := Lib.hid (HE0.out.trans (if_neg c0))
    have c0b : (d0 == -1) = false := by simp [c0]
    obtain ⟨x0, x1, x2, x3, x4⟩ := HD1.out.box.cells
    rw [HTA.out] at x4
    obtain ⟨k0, k1, k2, k3, k4⟩ := (HP.out.below HD1.out.b).kid1 HTA.out (by omega)
    go_upto_region 7 with (first
        | (go_at_call 76
           refine (IHR.out (H 1) _ ((HP.out.below HD1.out.b).kids 1 l1) (by omega)).mono ?_
           rintro _ w2 ⟨rfl, hb2⟩
           have HD2 := Lib.hid (HD1.out.below hb2)
           clear hb2))
    clear x0 x1 x2 x3 x4 k0 k1 k2 k3 k4
    generalize r.dep = d1 at *
    by_cases c1 : d1 = -1
    · have HE := Lib.hid (HE1.out.trans (if_pos (.inl c1)))
      clear HE0 HE1
      subst c1
      go_wp2_with fail
      go_ret
      exact ⟨by rw [HE.out]; rfl, HD2.out.b⟩
    have c1b : (d1 == -1) = false := by simp [c1]
    by_cases c2 : 1 < d0 - d1
    · have HE := Lib.hid (HE1.out.trans (if_pos (.inr (.inl c2))))
      clear HE0 HE1
      go_wp2_with fail
      go_ret
      exact ⟨by rw [HE.out]; rfl, HD2.out.b⟩
    by_cases c3 : 1 < d1 - d0
    · have HE := Lib.hid (HE1.out.trans (if_pos (.inr (.inr c3))))
      clear HE0 HE1
      go_wp2_with fail
      go_ret
      exact ⟨by rw [HE.out]; rfl, HD2.out.b⟩
    have HE := Lib.hid (HE1.out.trans (if_neg (by omega)))
    clear HE0 HE1
    by_cases c4 : d0 < d1
    · have HM : Hid (max d0 d1 = d1) := Lib.hid (by omega)
      go_wp2_with fail
      go_ret
      exact ⟨by rw [HE.out, HM.out]; rfl, HD2.out.b⟩
    · have HM : Hid (max d0 d1 = d0) := Lib.hid (by omega)
      go_wp2_with fail
      go_ret
      exact ⟨by rw [HE.out, HM.out]; rfl, HD2.out.b⟩
end Go.Proofs.YtlbiefddcimdgaaDoor

/- The contract of the program's look whether keys rise. -/
namespace Go.Proofs.YtlbiefddcimdgaaDoor
open Go.RowKit
set_option linter.unusedVariables false

/-- Do the keys rise, behind that one? And the last key. -/
def AT.asc : AT → Option (List Int) → Bool × Option (List Int)
  | .nil, o => (true, o)
  | .node l k v r, o => match AT.asc l o with
    | (false, o1) => (false, o1)
    | (true, some q) => if ltL q k then AT.asc r (some k) else (false, some q)
    | (true, none) => AT.asc r (some k)
/-- What rises behind a key. -/
def RiseO (o : Option (List Int)) (l : List KV) : Prop := Rise l ∧ ∀ q, o = some q → ∀ p ∈ l, ltL q p.1 = true
theorem riseO_cons {o : Option (List Int)} {k v : List Int} {b : List KV} : RiseO o ((k, v) :: b) ↔ (∀ q, o = some q → ltL q k = true) ∧ RiseO (some k) b := by
  unfold RiseO Rise
  rw [List.pairwise_cons]
  constructor
  · rintro ⟨⟨h1, h2⟩, h3⟩
    exact ⟨fun q hq => h3 q hq (k, v) (by simp), h2, fun q hq p hp => by injection hq with hq; rw [← hq]; exact h1 p hp⟩
  · rintro ⟨h1, h2, h3⟩
    refine ⟨⟨fun p hp => h3 k rfl p hp, h2⟩, fun q hq p hp => ?_⟩
    rcases List.mem_cons.1 hp with rfl | hp
    · exact h1 q hq
    · exact ltL_trans (h1 q hq) (h3 k rfl p hp)
/-- The last key of a list, or what was last before. -/
def lastK (o : Option (List Int)) : List KV → Option (List Int)
  | [] => o
  | (k, _) :: b => lastK (some k) b
theorem lastK_app : ∀ (a b : List KV) (o : Option (List Int)), lastK o (a ++ b) = lastK (lastK o a) b
  | [], _, _ => rfl
  | (k, v) :: a, b, o => lastK_app a b (some k)
theorem riseO_app : ∀ (a b : List KV) (o : Option (List Int)), RiseO o (a ++ b) ↔ RiseO o a ∧ RiseO (lastK o a) b
  | [], b, o => ⟨fun h => ⟨⟨List.Pairwise.nil, fun _ _ p hp => by cases hp⟩, h⟩, fun h => h.2⟩
  | (k, v) :: a, b, o => by
    rw [List.cons_append, riseO_cons, riseO_cons, riseO_app a b (some k), and_assoc]
    rfl
theorem AT.asc_iff : ∀ (a : AT) (o : Option (List Int)), ((a.asc o).1 = true ↔ RiseO o a.pairs) ∧ ((a.asc o).1 = true → (a.asc o).2 = lastK o a.pairs) := by
  intro a
  induction a with
  | nil => exact fun o => ⟨⟨fun _ => ⟨List.Pairwise.nil, fun _ _ p hp => by cases hp⟩, fun _ => rfl⟩, fun _ => rfl⟩
  | node l k v r ihl ihr =>
    intro o
    have hl := ihl o
    have hr := ihr (some k)
    rw [AT.pairs, riseO_app, riseO_cons, lastK_app, AT.asc]
    cases hq : AT.asc l o with
    | mk b o1 =>
      rw [hq] at hl
      cases b with
      | false =>
        refine ⟨⟨fun h => (by cases h), fun h => ?_⟩, fun h => (by cases h)⟩
        have := hl.1.2 h.1
        cases this
      | true =>
        have e1 := hl.1.1 rfl
        have e2 := hl.2 rfl
        dsimp only at e2
        rw [← e2]
        cases o1 with
        | none =>
          refine ⟨⟨fun h => ⟨e1, fun q hq => (by cases hq), hr.1.1 h⟩, fun h => hr.1.2 h.2.2⟩, fun h => hr.2 h⟩
        | some q =>
          dsimp only
          by_cases c : ltL q k = true
          · rw [if_pos c]
            refine ⟨⟨fun h => ⟨e1, fun q' hq' => (by injection hq' with hq'; rw [← hq']; exact c), hr.1.1 h⟩, fun h => hr.1.2 h.2.2⟩, fun h => hr.2 h⟩
          · rw [if_neg c]
            refine ⟨⟨fun h => (by cases h), fun h => absurd (h.2.1 q rfl) c⟩, fun h => (by cases h)⟩
theorem AT.asc_rise (a : AT) : (a.asc none).1 = true ↔ Rise a.pairs :=
  (AT.asc_iff a none).1.trans ⟨fun h => h.1, fun h => ⟨h, fun _ hq => by cases hq⟩⟩

/-- The node before, in its variable. -/
def LastOK (w : World) (hl : TH) : Option (List Int) → Prop
  | none => hl.k = 0
  | some q => hl.k = 1 ∧ InBytes w hl.ka hl.kn hl.kc q
theorem LastOK.below {w w' : World} {hl : TH} {o : Option (List Int)} (h : LastOK w hl o) (hb : Below w.heap.size w w') : LastOK w' hl o := by
  cases o with
  | none => exact h
  | some q => exact ⟨h.1, h.2.below hb⟩
theorem grownBy.comp {a b c : World} {row : Option Nat} (h : a.grownBy b row) (k : b.grownBy c row) : a.grownBy c row :=
  ⟨k.os.trans h.os, k.tape.trans h.tape, k.output.trans h.output, Nat.le_trans h.size k.size, fun j hj hn => (k.block j (Nat.lt_of_lt_of_le hj h.size) hn).trans (h.block j hj hn)⟩
theorem Below.off {a b : World} (h : Below a.heap.size a b) (row : Option Nat) : a.grownBy b row := ⟨h.os, h.tape, h.output, h.size, fun j hj _ => h.block j hj⟩
/-- The tree's parts stay as they are where another box is written. -/
theorem AT.outAt {W W' : World} {ty : TypeId} {g : Nat} {hh : TH} (hb : Box W ty g hh) (hg : W.grownBy W' (some g)) : ∀ (a : AT) (h : TH) (H : Nat → TH), TreeAt W h a.tr H → TreeAt W' h a.tr H
  | .nil, h, H, hp =>
    have h0 : h.tn = 0 := hp.len.symm
    ⟨hp.hk, hp.hk1, hp.hk2, hp.key.outBox hb hg, hp.val.outBox hb hg, hp.dig.outBox hb hg, ⟨hp.sl.le, hp.sl.max, hp.sl.nil, fun q => by omega⟩, hp.len, fun i hi => absurd hi (Nat.not_lt_zero i)⟩
  | .node l k v r, h, H, hp => by
    have h2 : h.tn = 2 := hp.len.symm
    refine ⟨hp.hk, hp.hk1, hp.hk2, hp.key.outBox hb hg, hp.val.outBox hb hg, hp.dig.outBox hb hg, ⟨hp.sl.le, hp.sl.max, hp.sl.nil, fun q => ?_⟩, hp.len, fun i hi => ?_⟩
    · obtain ⟨g', off, e, hlt, hc⟩ := hp.sl.place q
      have hne : some g' ≠ some g := fun q => by
        injection q with q
        subst q
        have h9 := hc 9 (by omega)
        rw [cell_of_row W g' (off + 9) _ _ (0, 0) hb, Array.getElem?_eq_none (by simp)] at h9
        cases h9
      exact ⟨g', off, e, Nat.lt_of_lt_of_le hlt hg.size, fun i hi => (World.cell?_of_block (a := ⟨g', off + i, none⟩) (hg.block g' hlt hne)).trans (hc i hi)⟩
    · have hi' : i < 2 := hi
      rcases (by omega : i = 0 ∨ i = 1) with rfl | rfl
      · exact AT.outBox hb hg l _ (hp.kids 0 hi)
      · exact AT.outBox hb hg r _ (hp.kids 1 hi)
/-- Inside the closure: its own box of a tree, the tree, the closure's variables. -/
structure AY (w W : World) (h : TH) (a : AT) (H : Nat → TH) (gc gl : Nat) (hl : TH) (o : Option (List Int)) : Prop where
  box : Box W 27 w.heap.size h
  tp : TreeAt W h a.tr H
  clo : Var1 W 29 gc (.func (.func 96) #[] #[.pointer (some ⟨gc, 0, none⟩), .pointer (some ⟨gl, 0, none⟩)])
  last : Box W 27 gl hl
  ok : LastOK W hl o
  ne : gc ≠ gl
  lt : gl < w.heap.size
  b : w.grownBy W (some gl)
theorem AY.below {w W W' : World} {h : TH} {a : AT} {H : Nat → TH} {gc gl : Nat} {hl : TH} {o : Option (List Int)} (d : AY w W h a H gc gl hl o) (hb : Below W.heap.size W W') : AY w W' h a H gc gl hl o :=
  ⟨d.box.below hb d.box.lt, d.tp.below hb, d.clo.below hb d.clo.lt, d.last.below hb d.last.lt, d.ok.below hb, d.ne, d.lt, grownBy.comp d.b (Below.off hb _)⟩
theorem AY.drew {w W : World} {h : TH} {a : AT} {H : Nat → TH} {gc gl : Nat} {hl : TH} {o : Option (List Int)} (d : AY w W h a H gc gl hl o) : AY w W.drew h a H gc gl hl o := d.below (Below.refl _ _).drew
theorem AY.step {w W W' : World} {h : TH} {a : AT} {H : Nat → TH} {gc gl : Nat} {hl hl' : TH} {o o' : Option (List Int)} (d : AY w W h a H gc gl hl o) (hg : W.grownBy W' (some gl)) (hx : Box W' 27 gl hl') (ho : LastOK W' hl' o') : AY w W' h a H gc gl hl' o' :=
  ⟨d.box.grown hg (fun q => by injection q with q; have := d.lt; omega), AT.outAt d.last hg a h H d.tp, d.clo.grown hg (fun q => by injection q with q; exact d.ne q), hx, ho, d.ne, d.lt, grownBy.comp d.b hg⟩
theorem AY.new (w : World) {h : TH} {a : AT} {H : Nat → TH} {gc gl : Nat} {hl : TH} {o : Option (List Int)} (ht : TreeAt w h a.tr H) (hc : Var1 w 29 gc (.func (.func 96) #[] #[.pointer (some ⟨gc, 0, none⟩), .pointer (some ⟨gl, 0, none⟩)])) (hx : Box w 27 gl hl) (ho : LastOK w hl o) (hn : gc ≠ gl) : AY w (w.alloc (.cells #[.int .i64 h.k, .slice h.ka h.kn h.kc, .slice h.va h.vn h.vc, .slice h.da h.dn h.dc, .slice h.ta h.tn h.tc] 27)) h a H gc gl hl o :=
  have q : Below w.heap.size w (w.alloc (.cells #[.int .i64 h.k, .slice h.ka h.kn h.kc, .slice h.va h.vn h.vc, .slice h.da h.dn h.dc, .slice h.ta h.tn h.tc] 27)) := (Below.refl _ _).alloc (Nat.le_refl _) _
  ⟨Box.new w 27 h, ht.below q, hc.below q hc.lt, hx.below q hx.lt, ho.below q, hn, hx.lt, Below.off q _⟩
/-- What the closure tells. -/
def Asc (w : World) (gl : Nat) (p : Bool) (o : Option (List Int)) (e : Ending) (w' : World) : Prop := e = .returned (.bool p) ∧ w.grownBy w' (some gl) ∧ ∃ hl', Box w' 27 gl hl' ∧ LastOK w' hl' o

set_option maxRecDepth 100000 in
set_option maxHeartbeats 4000000 in
theorem ascC_any : ∀ (a : AT) (h : TH) (w : World) (gc gl : Nat) (hl : TH) (o : Option (List Int)), InTree w h a.tr → Var1 w 29 gc (.func (.func 96) #[] #[.pointer (some ⟨gc, 0, none⟩), .pointer (some ⟨gl, 0, none⟩)]) → Box w 27 gl hl → LastOK w hl o → gc ≠ gl →
    Calls Tryd.prog 96 #[h.v, .pointer (some ⟨gc, 0, none⟩), .pointer (some ⟨gl, 0, none⟩)] w (Asc w gl (a.asc o).1 (a.asc o).2) := by
  intro a
  induction a with
  | nil =>
    intro h w gc gl hl o ht hc hx ho hn
    unfold TH.v
    obtain ⟨H, hp⟩ := ht.parts
    have hk0 : (h.k == 0) = true := by have h2 : h.k = 0 := hp.hk; simp [h2]
    have hd0 := AY.new w hp hc hx ho hn
    have HD0 := Lib.hid hd0
    obtain ⟨x0, x1, x2, x3, x4⟩ := hd0.box.cells
    clear hp ht hc hx ho hn hd0
    go_enter Tryd.func96, Tryd.ntmps96
    go_wp2_with fail
    go_ret
    exact ⟨rfl, HD0.out.b, hl, HD0.out.last, HD0.out.ok⟩
  | node l k v r ihl ihr =>
    intro h w gc gl hl o ht hc hx ho hn
    unfold TH.v
    obtain ⟨H, hp⟩ := ht.parts
    have l0 : 0 < (AT.node l k v r).tr.kids.length := by rw [AT.tr_kids]; simp
    have l1 : 1 < (AT.node l k v r).tr.kids.length := by rw [AT.tr_kids]; simp
    have ht1 : (1 : Int) < (h.tn : Int) := by have h2 : h.tn = 2 := hp.len.symm; omega
    have ht0 : 0 < h.tn := by omega
    have hk0 : (h.k == 0) = false := by have h2 : h.k = 1 := hp.hk; simp [h2]
    have hd0 := AY.new w hp hc hx ho hn
    have HD0 := Lib.hid hd0
    obtain ⟨g, off, hta, -, -⟩ := hp.place (by omega)
    have HTA := Lib.hid hta
    cases hq : l.asc o with
    | mk b o1 =>
    have IHL : Hid (∀ (h : TH) (w : World), InTree w h l.tr → Var1 w 29 gc (.func (.func 96) #[] #[.pointer (some ⟨gc, 0, none⟩), .pointer (some ⟨gl, 0, none⟩)]) → Box w 27 gl hl → LastOK w hl o → Calls Tryd.prog 96 #[h.v, .pointer (some ⟨gc, 0, none⟩), .pointer (some ⟨gl, 0, none⟩)] w (Asc w gl b o1)) := Lib.hid (fun h w a1 a2 a3 a4 => by
      have q := ihl h w gc gl hl o a1 a2 a3 a4 hn
      rw [hq] at q
      exact q)
    have IHR : Hid (∀ (h : TH) (w : World) {hl : TH}, InTree w h r.tr → Var1 w 29 gc (.func (.func 96) #[] #[.pointer (some ⟨gc, 0, none⟩), .pointer (some ⟨gl, 0, none⟩)]) → Box w 27 gl hl → LastOK w hl (some k) → Calls Tryd.prog 96 #[h.v, .pointer (some ⟨gc, 0, none⟩), .pointer (some ⟨gl, 0, none⟩)] w (Asc w gl (r.asc (some k)).1 (r.asc (some k)).2)) := Lib.hid (fun h w hl a1 a2 a3 a4 => ihr h w gc gl hl (some k) a1 a2 a3 a4 hn)
    have HPN0 : Hid ((AT.node l k v r).asc o = match (b, o1) with
      | (false, o1) => (false, o1)
      | (true, some q) => if ltL q k then AT.asc r (some k) else (false, some q)
      | (true, none) => AT.asc r (some k)) := Lib.hid (by rw [AT.asc, hq])
    have x0 := hd0.box.cells.1
    clear hp ht hc hx ho hn hd0 ihl ihr hq hta
    go_enter Tryd.func96, Tryd.ntmps96
    go_upto_region 3 with fail
    generalize w.alloc (.cells #[.int .i64 h.k, .slice h.ka h.kn h.kc, .slice h.va h.vn h.vc, .slice h.da h.dn h.dc, .slice h.ta h.tn h.tc] 27) = w0 at *
    clear x0
    refine wp_region_held_drew (S := (fun W => W.cell? ⟨gc, 0, none⟩ = some (.func (.func 96) #[] #[.pointer (some ⟨gc, 0, none⟩), .pointer (some ⟨gl, 0, none⟩)]) ∧ W.cell? ⟨w.heap.size, 4, none⟩ = some (.slice (some ⟨g, off, none⟩) h.tn h.tc) ∧ W.cell? ⟨g, off, none⟩ = some (.int .i64 (H 0).k) ∧ W.cell? ⟨g, off + 1, none⟩ = some (.slice (H 0).ka (H 0).kn (H 0).kc) ∧ W.cell? ⟨g, off + 2, none⟩ = some (.slice (H 0).va (H 0).vn (H 0).vc) ∧ W.cell? ⟨g, off + 3, none⟩ = some (.slice (H 0).da (H 0).dn (H 0).dc) ∧ W.cell? ⟨g, off + 4, none⟩ = some (.slice (H 0).ta (H 0).tn (H 0).tc))) (by kernel_rfl) ⟨HD0.out.drew.clo.cell, (HD0.out.drew.box.cells.2.2.2.2).trans (by rw [HTA.out]), HD0.out.drew.tp.kid0 HTA.out (by omega)⟩ (fun hHeld => ?_)
    refine take_w (i := 0) (oi := ?oZ301) (v := ?vZ301) ?hiZ301 (by kernel_rfl) (by kernel_rfl) (by kernel_rfl) ?hQZ301 ?hwZ301 ?hyZ301 (by assumption) ?restZ301
    case hiZ301 => (simp only [List.getElem?_toArray, List.getElem?_cons_zero] <;> rfl)
    case hQZ301 => exact (fun _ _ _ h => h)
    case hwZ301 => rfl
    case hyZ301 => (intro w hSw; (try dsimp only at hSw); go_simp; try with_reducible rfl)
    (try simp only [Act.put, List.setIfInBounds_toArray, List.set_cons_zero, List.set_cons_succ])
    refine take_w (i := 1) (oi := ?oZ302) (v := ?vZ302) ?hiZ302 (by kernel_rfl) (by kernel_rfl) (by kernel_rfl) ?hQZ302 ?hwZ302 ?hyZ302 (by assumption) ?restZ302
    case hiZ302 => (simp only [List.getElem?_toArray, List.getElem?_cons_succ, List.getElem?_cons_zero] <;> rfl)
    case hQZ302 => exact (fun _ _ _ h => h)
    case hwZ302 => rfl
    case hyZ302 => (intro w hSw; (try dsimp only at hSw); go_simp; try with_reducible rfl)
    (try simp only [Act.put, List.setIfInBounds_toArray, List.set_cons_zero, List.set_cons_succ])
    refine take_w (i := 2) (oi := ?oZ303) (v := ?vZ303) ?hiZ303 (by kernel_rfl) (by kernel_rfl) (by kernel_rfl) ?hQZ303 ?hwZ303 ?hyZ303 (by assumption) ?restZ303
    case hiZ303 => (simp only [List.getElem?_toArray, List.getElem?_cons_succ, List.getElem?_cons_zero] <;> rfl)
    case hQZ303 => exact (fun _ _ _ h => h)
    case hwZ303 => rfl
    case hyZ303 => (intro w hSw; (try dsimp only at hSw); go_simp; try with_reducible rfl)
    (try simp only [Act.put, List.setIfInBounds_toArray, List.set_cons_zero, List.set_cons_succ])
    refine take_w (i := 3) (oi := ?oZ304) (v := ?vZ304) ?hiZ304 (by kernel_rfl) (by kernel_rfl) (by kernel_rfl) ?hQZ304 ?hwZ304 ?hyZ304 (by assumption) ?restZ304
    case hiZ304 => (simp only [List.getElem?_toArray, List.getElem?_cons_succ, List.getElem?_cons_zero] <;> rfl)
    case hQZ304 => exact (fun _ _ _ h => h)
    case hwZ304 => rfl
    case hyZ304 => (intro w hSw; (try dsimp only at hSw); go_simp; try with_reducible rfl)
    (try simp only [Act.put, List.setIfInBounds_toArray, List.set_cons_zero, List.set_cons_succ])
    refine take_w (i := 4) (oi := ?oZ305) (v := ?vZ305) ?hiZ305 (by kernel_rfl) (by kernel_rfl) (by kernel_rfl) ?hQZ305 ?hwZ305 ?hyZ305 (by assumption) ?restZ305
    case hiZ305 => (simp only [List.getElem?_toArray, List.getElem?_cons_succ, List.getElem?_cons_zero] <;> rfl)
    case hQZ305 => exact (fun _ _ _ h => h)
    case hwZ305 => rfl
    case hyZ305 => (intro w hSw; (try dsimp only at hSw); go_simp; try with_reducible rfl)
    (try simp only [Act.put, List.setIfInBounds_toArray, List.set_cons_zero, List.set_cons_succ])
    refine wpAnyH_ready (rs := [5]) (by kernel_rfl) (by simp) ?_
    refine AllReadyH.cons (o := ?oZ306) ?hiZ306 (fun K hK => ?stZ306) AllReadyH.nil
    case hiZ306 => (simp only [List.getElem?_toArray, List.getElem?_cons_succ, List.getElem?_cons_zero] <;> rfl)
    go_simp
    go_at_call 96
    refine (IHL.out (H 0) _ (HD0.out.drew.tp.kids 0 l0) HD0.out.drew.clo HD0.out.drew.last HD0.out.drew.ok).mono ?_
    rintro _ w2 ⟨rfl, hg2, hl2, hx2, ho2⟩
    have HD2 := Lib.hid (HD0.out.drew.step hg2 hx2 ho2)
    clear hg2 hx2 ho2
    go_simp
    refine hK.out _ _ ?_ (fun hHeld => ?_)
    · (first | exact ⟨HD2.out.clo.cell, (HD2.out.box.cells.2.2.2.2).trans (by rw [HTA.out]), HD2.out.tp.kid0 HTA.out (by omega)⟩ | exact ⟨HD0.out.drew.clo.cell, (HD0.out.drew.box.cells.2.2.2.2).trans (by rw [HTA.out]), HD0.out.drew.tp.kid0 HTA.out (by omega)⟩)
    clear hK K
    (try simp only [Act.put, List.setIfInBounds_toArray, List.set_cons_zero, List.set_cons_succ])
    refine take_w (i := 6) (oi := ?oZ307) (v := ?vZ307) ?hiZ307 (by kernel_rfl) (by kernel_rfl) (by kernel_rfl) ?hQZ307 ?hwZ307 ?hyZ307 (by assumption) ?restZ307
    case hiZ307 => (simp only [List.getElem?_toArray, List.getElem?_cons_succ, List.getElem?_cons_zero] <;> rfl)
    case hQZ307 => exact (fun _ _ _ h => h)
    case hwZ307 => rfl
    case hyZ307 => (intro w hSw; (try dsimp only at hSw); go_simp; try with_reducible rfl)
    (try simp only [Act.put, List.setIfInBounds_toArray, List.set_cons_zero, List.set_cons_succ])
    refine wpAnyH_done (by kernel_rfl) ?_ _
    clear hHeld
    cases b with
    | false =>
      have HPN : Hid ((AT.node l k v r).asc o = (false, o1)) := Lib.hid HPN0.out
      clear HPN0
      simp only [Bool.not_false]
      go_wp2_with fail
      go_ret
      refine ⟨?_, HD2.out.b, hl2, HD2.out.last, ?_⟩
      · (rw [HPN.out] <;> rfl)
      · rw [HPN.out]; exact HD2.out.ok
    | true =>
      simp only [Bool.not_true]
      obtain ⟨x0, x1, x2, x3, x4⟩ := HD2.out.box.cells
      obtain ⟨y0, y1, y2, y3, y4⟩ := HD2.out.last.cells
      cases o1 with
      | none =>
        have HPN : Hid ((AT.node l k v r).asc o = AT.asc r (some k)) := Lib.hid HPN0.out
        clear HPN0
        have hk2 : (hl2.k != 0) = false := by have h2 : hl2.k = 0 := HD2.out.ok; simp [h2]
        go_upto_region 8 with (first
             | (refine wpList_store_box rfl 27 (.tmp 2) (.tmp 26) rfl gl hl2 h rfl rfl 27 HD2.out.last infoTree5 ?_
                intro w4 hbx4 hg4
                have HD4 : Hid (AY w w4 h (AT.node l k v r) H gc gl h (some k)) := Lib.hid (HD2.out.step hg4 hbx4 ⟨HD2.out.tp.hk, HD2.out.tp.key.outBox HD2.out.last hg4⟩)
                clear hbx4 hg4))
        clear x0 x1 x2 x3 x4 y0 y1 y2 y3 y4
        try simp only [Act.put]
        refine wp_region_held_drew (S := (fun W => W.cell? ⟨gc, 0, none⟩ = some (.func (.func 96) #[] #[.pointer (some ⟨gc, 0, none⟩), .pointer (some ⟨gl, 0, none⟩)]) ∧ W.cell? ⟨w.heap.size, 4, none⟩ = some (.slice (some ⟨g, off, none⟩) h.tn h.tc) ∧ W.cell? ⟨g, off + 5, none⟩ = some (.int .i64 (H 1).k) ∧ W.cell? ⟨g, off + 5 + 1, none⟩ = some (.slice (H 1).ka (H 1).kn (H 1).kc) ∧ W.cell? ⟨g, off + 5 + 2, none⟩ = some (.slice (H 1).va (H 1).vn (H 1).vc) ∧ W.cell? ⟨g, off + 5 + 3, none⟩ = some (.slice (H 1).da (H 1).dn (H 1).dc) ∧ W.cell? ⟨g, off + 5 + 4, none⟩ = some (.slice (H 1).ta (H 1).tn (H 1).tc))) (by kernel_rfl) ⟨HD4.out.drew.clo.cell, (HD4.out.drew.box.cells.2.2.2.2).trans (by rw [HTA.out]), HD4.out.drew.tp.kid1 HTA.out (by omega)⟩ (fun hHeld => ?_)
        refine take_w (i := 0) (oi := ?oZ308) (v := ?vZ308) ?hiZ308 (by kernel_rfl) (by kernel_rfl) (by kernel_rfl) ?hQZ308 ?hwZ308 ?hyZ308 (by assumption) ?restZ308
        case hiZ308 => (simp only [List.getElem?_toArray, List.getElem?_cons_zero] <;> rfl)
        case hQZ308 => exact (fun _ _ _ h => h)
        case hwZ308 => rfl
        case hyZ308 => (intro w hSw; (try dsimp only at hSw); go_simp; try with_reducible rfl)
        (try simp only [Act.put, List.setIfInBounds_toArray, List.set_cons_zero, List.set_cons_succ])
        refine take_w (i := 1) (oi := ?oZ309) (v := ?vZ309) ?hiZ309 (by kernel_rfl) (by kernel_rfl) (by kernel_rfl) ?hQZ309 ?hwZ309 ?hyZ309 (by assumption) ?restZ309
        case hiZ309 => (simp only [List.getElem?_toArray, List.getElem?_cons_succ, List.getElem?_cons_zero] <;> rfl)
        case hQZ309 => exact (fun _ _ _ h => h)
        case hwZ309 => rfl
        case hyZ309 => (intro w hSw; (try dsimp only at hSw); go_simp; try with_reducible rfl)
        (try simp only [Act.put, List.setIfInBounds_toArray, List.set_cons_zero, List.set_cons_succ])
        refine take_w (i := 2) (oi := ?oZ310) (v := ?vZ310) ?hiZ310 (by kernel_rfl) (by kernel_rfl) (by kernel_rfl) ?hQZ310 ?hwZ310 ?hyZ310 (by assumption) ?restZ310
        case hiZ310 => (simp only [List.getElem?_toArray, List.getElem?_cons_succ, List.getElem?_cons_zero] <;> rfl)
        case hQZ310 => exact (fun _ _ _ h => h)
        case hwZ310 => rfl
        case hyZ310 => (intro w hSw; (try dsimp only at hSw); go_simp; try with_reducible rfl)
        (try simp only [Act.put, List.setIfInBounds_toArray, List.set_cons_zero, List.set_cons_succ])
        refine take_w (i := 3) (oi := ?oZ311) (v := ?vZ311) ?hiZ311 (by kernel_rfl) (by kernel_rfl) (by kernel_rfl) ?hQZ311 ?hwZ311 ?hyZ311 (by assumption) ?restZ311
        case hiZ311 => (simp only [List.getElem?_toArray, List.getElem?_cons_succ, List.getElem?_cons_zero] <;> rfl)
        case hQZ311 => exact (fun _ _ _ h => h)
        case hwZ311 => rfl
        case hyZ311 => (intro w hSw; (try dsimp only at hSw); go_simp; try with_reducible rfl)
        (try simp only [Act.put, List.setIfInBounds_toArray, List.set_cons_zero, List.set_cons_succ])
        refine take_w (i := 4) (oi := ?oZ312) (v := ?vZ312) ?hiZ312 (by kernel_rfl) (by kernel_rfl) (by kernel_rfl) ?hQZ312 ?hwZ312 ?hyZ312 (by assumption) ?restZ312
        case hiZ312 => (simp only [List.getElem?_toArray, List.getElem?_cons_succ, List.getElem?_cons_zero] <;> rfl)
        case hQZ312 => exact (fun _ _ _ h => h)
        case hwZ312 => rfl
        case hyZ312 => (intro w hSw; (try dsimp only at hSw); go_simp; try with_reducible rfl)
        (try simp only [Act.put, List.setIfInBounds_toArray, List.set_cons_zero, List.set_cons_succ])
        refine wpAnyH_ready (rs := [5]) (by kernel_rfl) (by simp) ?_
        refine AllReadyH.cons (o := ?oZ313) ?hiZ313 (fun K hK => ?stZ313) AllReadyH.nil
        case hiZ313 => (simp only [List.getElem?_toArray, List.getElem?_cons_succ, List.getElem?_cons_zero] <;> rfl)
        go_simp
        go_at_call 96
        refine (IHR.out (H 1) _ (HD4.out.drew.tp.kids 1 l1) HD4.out.drew.clo HD4.out.drew.last HD4.out.drew.ok).mono ?_
        rintro _ w6 ⟨rfl, hg6, hl6, hx6, ho6⟩
        have HD6 := Lib.hid (HD4.out.drew.step hg6 hx6 ho6)
        clear hg6 hx6 ho6
        go_simp
        refine hK.out _ _ ?_ (fun hHeld => ?_)
        · (first | exact ⟨HD6.out.clo.cell, (HD6.out.box.cells.2.2.2.2).trans (by rw [HTA.out]), HD6.out.tp.kid1 HTA.out (by omega)⟩ | exact ⟨HD4.out.drew.clo.cell, (HD4.out.drew.box.cells.2.2.2.2).trans (by rw [HTA.out]), HD4.out.drew.tp.kid1 HTA.out (by omega)⟩)
        clear hK K
        (try simp only [Act.put, List.setIfInBounds_toArray, List.set_cons_zero, List.set_cons_succ])
        refine take_w (i := 6) (oi := ?oZ314) (v := ?vZ314) ?hiZ314 (by kernel_rfl) (by kernel_rfl) (by kernel_rfl) ?hQZ314 ?hwZ314 ?hyZ314 (by assumption) ?restZ314
        case hiZ314 => (simp only [List.getElem?_toArray, List.getElem?_cons_succ, List.getElem?_cons_zero] <;> rfl)
        case hQZ314 => exact (fun _ _ _ h => h)
        case hwZ314 => rfl
        case hyZ314 => (intro w hSw; (try dsimp only at hSw); go_simp; try with_reducible rfl)
        (try simp only [Act.put, List.setIfInBounds_toArray, List.set_cons_zero, List.set_cons_succ])
        refine wpAnyH_done (by kernel_rfl) ?_ _
        clear hHeld
        go_wp2_with fail
        go_ret
        refine ⟨?_, HD6.out.b, hl6, HD6.out.last, ?_⟩
        · (rw [HPN.out] <;> rfl)
        · rw [HPN.out]; exact HD6.out.ok
      | some q =>
        have hk2 : (hl2.k != 0) = true := by have h2 : hl2.k = 1 := HD2.out.ok.1; simp [h2]
        rcases ltL_three q k with c | c | c
        · have HPN := Lib.hid (HPN0.out.trans (if_pos c))
          have HC := Lib.hid (ordL_lt c)
          clear HPN0 c
          go_upto_region 8 with (first
               | (go_at_call 52
                  refine (compare_any q k hl2.ka h.ka hl2.kn h.kn hl2.kc h.kc _ HD2.out.ok.2 HD2.out.tp.key).mono ?_
                  rintro _ w8 ⟨rfl, hw8⟩
                  rw [hw8, HC.out]
                  clear hw8)
               | (refine wpList_store_box rfl 27 (.tmp 2) (.tmp 26) rfl gl hl2 h rfl rfl 27 HD2.out.last infoTree5 ?_
                  intro w4 hbx4 hg4
                  have HD4 : Hid (AY w w4 h (AT.node l k v r) H gc gl h (some k)) := Lib.hid (HD2.out.step hg4 hbx4 ⟨HD2.out.tp.hk, HD2.out.tp.key.outBox HD2.out.last hg4⟩)
                  clear hbx4 hg4))
          clear x0 x1 x2 x3 x4 y0 y1 y2 y3 y4
          try simp only [Act.put]
          refine wp_region_held_drew (S := (fun W => W.cell? ⟨gc, 0, none⟩ = some (.func (.func 96) #[] #[.pointer (some ⟨gc, 0, none⟩), .pointer (some ⟨gl, 0, none⟩)]) ∧ W.cell? ⟨w.heap.size, 4, none⟩ = some (.slice (some ⟨g, off, none⟩) h.tn h.tc) ∧ W.cell? ⟨g, off + 5, none⟩ = some (.int .i64 (H 1).k) ∧ W.cell? ⟨g, off + 5 + 1, none⟩ = some (.slice (H 1).ka (H 1).kn (H 1).kc) ∧ W.cell? ⟨g, off + 5 + 2, none⟩ = some (.slice (H 1).va (H 1).vn (H 1).vc) ∧ W.cell? ⟨g, off + 5 + 3, none⟩ = some (.slice (H 1).da (H 1).dn (H 1).dc) ∧ W.cell? ⟨g, off + 5 + 4, none⟩ = some (.slice (H 1).ta (H 1).tn (H 1).tc))) (by kernel_rfl) ⟨HD4.out.drew.clo.cell, (HD4.out.drew.box.cells.2.2.2.2).trans (by rw [HTA.out]), HD4.out.drew.tp.kid1 HTA.out (by omega)⟩ (fun hHeld => ?_)
          refine take_w (i := 0) (oi := ?oZ315) (v := ?vZ315) ?hiZ315 (by kernel_rfl) (by kernel_rfl) (by kernel_rfl) ?hQZ315 ?hwZ315 ?hyZ315 (by assumption) ?restZ315
          case hiZ315 => (simp only [List.getElem?_toArray, List.getElem?_cons_zero] <;> rfl)
          case hQZ315 => exact (fun _ _ _ h => h)
          case hwZ315 => rfl
          case hyZ315 => (intro w hSw; (try dsimp only at hSw); go_simp; try with_reducible rfl)
          (try simp only [Act.put, List.setIfInBounds_toArray, List.set_cons_zero, List.set_cons_succ])
          refine take_w (i := 1) (oi := ?oZ316) (v := ?vZ316) ?hiZ316 (by kernel_rfl) (by kernel_rfl) (by kernel_rfl) ?hQZ316 ?hwZ316 ?hyZ316 (by assumption) ?restZ316
          case hiZ316 => (simp only [List.getElem?_toArray, List.getElem?_cons_succ, List.getElem?_cons_zero] <;> rfl)
          case hQZ316 => exact (fun _ _ _ h => h)
          case hwZ316 => rfl
          case hyZ316 => (intro w hSw; (try dsimp only at hSw); go_simp; try with_reducible rfl)
          (try simp only [Act.put, List.setIfInBounds_toArray, List.set_cons_zero, List.set_cons_succ])
          refine take_w (i := 2) (oi := ?oZ317) (v := ?vZ317) ?hiZ317 (by kernel_rfl) (by kernel_rfl) (by kernel_rfl) ?hQZ317 ?hwZ317 ?hyZ317 (by assumption) ?restZ317
          case hiZ317 => (simp only [List.getElem?_toArray, List.getElem?_cons_succ, List.getElem?_cons_zero] <;> rfl)
          case hQZ317 => exact (fun _ _ _ h => h)
          case hwZ317 => rfl
          case hyZ317 => (intro w hSw; (try dsimp only at hSw); go_simp; try with_reducible rfl)
          (try simp only [Act.put, List.setIfInBounds_toArray, List.set_cons_zero, List.set_cons_succ])
          refine take_w (i := 3) (oi := ?oZ318) (v := ?vZ318) ?hiZ318 (by kernel_rfl) (by kernel_rfl) (by kernel_rfl) ?hQZ318 ?hwZ318 ?hyZ318 (by assumption) ?restZ318
          case hiZ318 => (simp only [List.getElem?_toArray, List.getElem?_cons_succ, List.getElem?_cons_zero] <;> rfl)
          case hQZ318 => exact (fun _ _ _ h => h)
          case hwZ318 => rfl
          case hyZ318 => (intro w hSw; (try dsimp only at hSw); go_simp; try with_reducible rfl)
          (try simp only [Act.put, List.setIfInBounds_toArray, List.set_cons_zero, List.set_cons_succ])
          refine take_w (i := 4) (oi := ?oZ319) (v := ?vZ319) ?hiZ319 (by kernel_rfl) (by kernel_rfl) (by kernel_rfl) ?hQZ319 ?hwZ319 ?hyZ319 (by assumption) ?restZ319
          case hiZ319 => (simp only [List.getElem?_toArray, List.getElem?_cons_succ, List.getElem?_cons_zero] <;> rfl)
          case hQZ319 => exact (fun _ _ _ h => h)
          case hwZ319 => rfl
          case hyZ319 => (intro w hSw; (try dsimp only at hSw); go_simp; try with_reducible rfl)
          (try simp only [Act.put, List.setIfInBounds_toArray, List.set_cons_zero, List.set_cons_succ])
          refine wpAnyH_ready (rs := [5]) (by kernel_rfl) (by simp) ?_
          refine AllReadyH.cons (o := ?oZ320) ?hiZ320 (fun K hK => ?stZ320) AllReadyH.nil
          case hiZ320 => (simp only [List.getElem?_toArray, List.getElem?_cons_succ, List.getElem?_cons_zero] <;> rfl)
          go_simp
          go_at_call 96
          refine (IHR.out (H 1) _ (HD4.out.drew.tp.kids 1 l1) HD4.out.drew.clo HD4.out.drew.last HD4.out.drew.ok).mono ?_
          rintro _ w6 ⟨rfl, hg6, hl6, hx6, ho6⟩
          have HD6 := Lib.hid (HD4.out.drew.step hg6 hx6 ho6)
          clear hg6 hx6 ho6
          go_simp
          refine hK.out _ _ ?_ (fun hHeld => ?_)
          · (first | exact ⟨HD6.out.clo.cell, (HD6.out.box.cells.2.2.2.2).trans (by rw [HTA.out]), HD6.out.tp.kid1 HTA.out (by omega)⟩ | exact ⟨HD4.out.drew.clo.cell, (HD4.out.drew.box.cells.2.2.2.2).trans (by rw [HTA.out]), HD4.out.drew.tp.kid1 HTA.out (by omega)⟩)
          clear hK K
          (try simp only [Act.put, List.setIfInBounds_toArray, List.set_cons_zero, List.set_cons_succ])
          refine take_w (i := 6) (oi := ?oZ321) (v := ?vZ321) ?hiZ321 (by kernel_rfl) (by kernel_rfl) (by kernel_rfl) ?hQZ321 ?hwZ321 ?hyZ321 (by assumption) ?restZ321
          case hiZ321 => (simp only [List.getElem?_toArray, List.getElem?_cons_succ, List.getElem?_cons_zero] <;> rfl)
          case hQZ321 => exact (fun _ _ _ h => h)
          case hwZ321 => rfl
          case hyZ321 => (intro w hSw; (try dsimp only at hSw); go_simp; try with_reducible rfl)
          (try simp only [Act.put, List.setIfInBounds_toArray, List.set_cons_zero, List.set_cons_succ])
          refine wpAnyH_done (by kernel_rfl) ?_ _
          clear hHeld
          go_wp2_with fail
          go_ret
          refine ⟨?_, HD6.out.b, hl6, HD6.out.last, ?_⟩
          · (rw [HPN.out] <;> rfl)
          · rw [HPN.out]; exact HD6.out.ok
        · have HPN := Lib.hid (HPN0.out.trans (if_neg (by rw [c, ltL_irr]; simp)))
          have HC := Lib.hid (show ordL q k = 0 by rw [c]; exact ordL_eq k)
          clear HPN0 c
          go_wp2_with (first
               | (go_at_call 52
                  refine (compare_any q k hl2.ka h.ka hl2.kn h.kn hl2.kc h.kc _ HD2.out.ok.2 HD2.out.tp.key).mono ?_
                  rintro _ w8 ⟨rfl, hw8⟩
                  rw [hw8, HC.out]
                  clear hw8))
          go_ret
          refine ⟨?_, HD2.out.b, hl2, HD2.out.last, ?_⟩
          · (rw [HPN.out] <;> rfl)
          · rw [HPN.out]; exact HD2.out.ok
        · have HPN := Lib.hid (HPN0.out.trans (if_neg (by rw [ltL_asymm c]; simp)))
          have HC := Lib.hid (ordL_gt c)
          clear HPN0 c
          go_wp2_with (first
               | (go_at_call 52
                  refine (compare_any q k hl2.ka h.ka hl2.kn h.kn hl2.kc h.kc _ HD2.out.ok.2 HD2.out.tp.key).mono ?_
                  rintro _ w8 ⟨rfl, hw8⟩
                  rw [hw8, HC.out]
                  clear hw8))
          go_ret
          refine ⟨?_, HD2.out.b, hl2, HD2.out.last, ?_⟩
          · (rw [HPN.out] <;> rfl)
          · rw [HPN.out]; exact HD2.out.ok
end Go.Proofs.YtlbiefddcimdgaaDoor

/- The contracts of the program's ascending and Is. -/
namespace Go.Proofs.YtlbiefddcimdgaaDoor
open Go.RowKit
set_option linter.unusedVariables false

set_option maxRecDepth 100000 in
set_option maxHeartbeats 4000000 in
theorem asc_any (a : AT) (h : TH) (w : World) (ht : InTree w h a.tr) : Calls Tryd.prog 75 #[h.v] w (Says w (.bool (a.asc none).1)) := by
  have hmf : ∀ (fn : Fn) (first cap : Array Value) (w : World), (Instr.makeFunc fn first cap).run Tryd.prog w = .ok (.func fn first cap) w := fun _ _ _ _ => rfl
  unfold TH.v
  have HTT := Lib.hid ht
  clear ht
  obtain ⟨e1, e2, e3, e4⟩ := enter2 w h
  have q1 := (Below.refl ((w.alloc (.cells #[.int .i64 h.k, .slice h.ka h.kn h.kc, .slice h.va h.vn h.vc, .slice h.da h.dn h.dc, .slice h.ta h.tn h.tc] 27)).alloc (.cells #[.int .i64 0, .slice none 0 0, .slice none 0 0, .slice none 0 0, .slice none 0 0] 27)).heap.size ((w.alloc (.cells #[.int .i64 h.k, .slice h.ka h.kn h.kc, .slice h.va h.vn h.vc, .slice h.da h.dn h.dc, .slice h.ta h.tn h.tc] 27)).alloc (.cells #[.int .i64 0, .slice none 0 0, .slice none 0 0, .slice none 0 0, .slice none 0 0] 27))).alloc (Nat.le_refl _) (.cells #[.nilFunc] 29)
  have hnf := Var1.new ((w.alloc (.cells #[.int .i64 h.k, .slice h.ka h.kn h.kc, .slice h.va h.vn h.vc, .slice h.da h.dn h.dc, .slice h.ta h.tn h.tc] 27)).alloc (.cells #[.int .i64 0, .slice none 0 0, .slice none 0 0, .slice none 0 0, .slice none 0 0] 27)) 29 .nilFunc
  have hbx3 := e1.below q1 e1.lt
  have hbl3 := e2.below q1 e2.lt
  have hbw3 := e3.trans (q1.mono e3.size)
  rw [e4] at hnf
  clear e1 e2 e3 e4 q1
  go_enter Tryd.func75, Tryd.ntmps75
  go_upto_region 3 with fail
  generalize (((w.alloc (.cells #[.int .i64 h.k, .slice h.ka h.kn h.kc, .slice h.va h.vn h.vc, .slice h.da h.dn h.dc, .slice h.ta h.tn h.tc] 27)).alloc (.cells #[.int .i64 0, .slice none 0 0, .slice none 0 0, .slice none 0 0, .slice none 0 0] 27)).alloc (.cells #[.nilFunc] 29)) = w2 at *
  have c0 := hnf.cell
  have c1 := hnf.frozen 0
  have hn4 := hnf.set (.func (.func 96) #[] #[.pointer (some ⟨w.heap.size + 2, 0, none⟩), .pointer (some ⟨w.heap.size + 1, 0, none⟩)])
  have hbx4 : Box (w2.setCell ⟨w.heap.size + 2, 0, none⟩ (.func (.func 96) #[] #[.pointer (some ⟨w.heap.size + 2, 0, none⟩), .pointer (some ⟨w.heap.size + 1, 0, none⟩)])) 27 w.heap.size h := (Below.heap_setCell w2 ⟨w.heap.size + 2, 0, none⟩ _ w.heap.size (by simp)).trans hbx3
  have hbl4 : Box (w2.setCell ⟨w.heap.size + 2, 0, none⟩ (.func (.func 96) #[] #[.pointer (some ⟨w.heap.size + 2, 0, none⟩), .pointer (some ⟨w.heap.size + 1, 0, none⟩)])) 27 (w.heap.size + 1) hZ := (Below.heap_setCell w2 ⟨w.heap.size + 2, 0, none⟩ _ (w.heap.size + 1) (by simp)).trans hbl3
  have hb4 : Below w.heap.size w (w2.setCell ⟨w.heap.size + 2, 0, none⟩ (.func (.func 96) #[] #[.pointer (some ⟨w.heap.size + 2, 0, none⟩), .pointer (some ⟨w.heap.size + 1, 0, none⟩)])) := hbw3.setCell (by simp) _
  clear hnf hbx3 hbl3 hbw3
  go_upto_region 4 with fail
  generalize (w2.setCell ⟨w.heap.size + 2, 0, none⟩ (.func (.func 96) #[] #[.pointer (some ⟨w.heap.size + 2, 0, none⟩), .pointer (some ⟨w.heap.size + 1, 0, none⟩)])) = w3 at *
  obtain ⟨x0, x1, x2, x3, x4⟩ := hbx4.cells
  have c2 := hn4.cell
  have HN := Lib.hid hn4
  have HL := Lib.hid hbl4
  have HB3 := Lib.hid hb4
  clear c0 c1 hbx4 hb4 hbl4 hn4
  go_wp2_with (first
    | (go_at_call 96
       refine (ascC_any a h _ (w.heap.size + 2) (w.heap.size + 1) hZ none (HTT.out.lower HB3.out) HN.out HL.out rfl (by omega)).mono ?_
       rintro _ w4 ⟨rfl, hg4, -⟩
       have HB4 : Hid (Below w.heap.size w w4) := Lib.hid (HB3.out.grown hg4 HB3.out.size (fun j hj => by injection hj; omega))
       clear hg4))
  go_ret
  exact ⟨rfl, HB4.out⟩

theorem is_no {t : Tr} (h : (decide (checkT t = 0) && fullT t) = false) : isT t = false := by
  unfold isT
  rw [← Bool.and_assoc, h]
  rfl
theorem is_yes {t : Tr} (h : (decide (checkT t = 0) && fullT t) = true) : ∃ a : AT, t = a.tr ∧ a.depth ≤ 64 ∧ Lim a.pairs ∧ isT t = (decide (a.dep ≠ -1) && (a.asc none).1) := by
  rw [Bool.and_eq_true, decide_eq_true_eq] at h
  obtain ⟨hf, hd⟩ := check_zero h.1
  obtain ⟨a, rfl⟩ := AT.of_full t hf h.2
  rw [AT.tr_deep a 64 (by omega), decide_eq_false_iff_not] at hd
  refine ⟨a, rfl, by omega, (AT.tr_formed a).1 hf, ?_⟩
  rw [Bool.eq_iff_iff, isT_iff, Bool.and_eq_true, decide_eq_true_eq, AT.asc_rise]
  constructor
  · rintro ⟨b, e, h1, h2, -, -⟩
    obtain rfl := AT.tr_inj e
    refine ⟨?_, h2⟩
    rw [AT.dep_bal h1]
    omega
  · rintro ⟨h1, h2⟩
    refine ⟨a, rfl, ?_, h2, (AT.tr_formed a).1 hf, by omega⟩
    rcases AT.dep_iff a with q | q
    · exact q.1
    · exact absurd q.2 h1

set_option maxRecDepth 100000 in
set_option maxHeartbeats 4000000 in
theorem is_any (t : Tr) (h : TH) (w : World) (ht : InTree w h t) : Calls Tryd.prog 50 #[h.v] w (Says w (.bool (isT t))) := by
  unfold TH.v
  have hbox := Box.new w 27 h
  have HX := Lib.hid hbox
  have HT := Lib.hid ht
  obtain ⟨x0, x1, x2, x3, x4⟩ := hbox.cells
  clear hbox ht
  go_enter Tryd.func50, Tryd.ntmps50
  cases hq : (decide (checkT t = 0) && fullT t) with
  | false =>
    have HQ := Lib.hid hq
    have HE := Lib.hid (is_no hq)
    clear hq
    go_wp2_with (first
      | (go_at_call 74
         refine (full_any t h _ ?_).mono ?_
         · exact HT.out.lower ((Below.refl _ _).alloc (Nat.le_refl _) _)
         rintro _ w1 ⟨rfl, hb1⟩
         have HB1 : Hid (Below w.heap.size w w1) := Lib.hid (((Below.refl w.heap.size w).alloc (Nat.le_refl _) _).trans (hb1.mono (by simp)))
         rw [HQ.out]
         clear hb1 x0 x1 x2 x3 x4))
    go_ret
    exact ⟨by rw [HE.out]; rfl, HB1.out⟩
  | true =>
    have HQ := Lib.hid hq
    obtain ⟨a, hta, hde, -, he⟩ := is_yes hq
    have HE := Lib.hid he
    have HTA := Lib.hid hta
    clear hq he hta
    cases hs : (a.asc none).1 with
    | false =>
      have HS := Lib.hid hs
      clear hs
      go_wp2_with (first
        | (go_at_call 74
           refine (full_any t h _ ?_).mono ?_
           · exact HT.out.lower ((Below.refl _ _).alloc (Nat.le_refl _) _)
           rintro _ w1 ⟨rfl, hb1⟩
           have HB1 : Hid (Below w.heap.size w w1) := Lib.hid (((Below.refl w.heap.size w).alloc (Nat.le_refl _) _).trans (hb1.mono (by simp)))
           obtain ⟨y0, y1, y2, y3, y4⟩ := (HX.out.below hb1 HX.out.lt).cells
           rw [HQ.out]
           clear hb1 x0 x1 x2 x3 x4)
        | (go_at_call 75
           refine (asc_any a h _ ?_).mono ?_
           · rw [← HTA.out]
             exact HT.out.lower HB1.out
           rintro _ w2 ⟨rfl, hb2⟩
           have HB2 : Hid (Below w.heap.size w w2) := Lib.hid (HB1.out.trans (hb2.mono HB1.out.size))
           rw [HS.out]
           clear hb2 y0 y1 y2 y3 y4))
      go_ret
      exact ⟨by rw [HE.out, HS.out, Bool.and_false]; rfl, HB2.out⟩
    | true =>
      have HS := Lib.hid hs
      clear hs
      have HDE := Lib.hid hde
      clear hde
      cases hd : decide (a.dep ≠ -1) with
      | false =>
        have hd1 : a.dep = -1 := by
          rw [decide_eq_false_iff_not] at hd
          omega
        have HD := Lib.hid hd
        have HD1 := Lib.hid hd1
        clear hd hd1
        go_wp2_with (first
          | (go_at_call 74
             refine (full_any t h _ ?_).mono ?_
             · exact HT.out.lower ((Below.refl _ _).alloc (Nat.le_refl _) _)
             rintro _ w1 ⟨rfl, hb1⟩
             have HB1 : Hid (Below w.heap.size w w1) := Lib.hid (((Below.refl w.heap.size w).alloc (Nat.le_refl _) _).trans (hb1.mono (by simp)))
             have HX1 := Lib.hid (HX.out.below hb1 HX.out.lt)
             obtain ⟨y0, y1, y2, y3, y4⟩ := HX1.out.cells
             rw [HQ.out]
             clear hb1 x0 x1 x2 x3 x4)
          | (go_at_call 75
             refine (asc_any a h _ ?_).mono ?_
             · rw [← HTA.out]
               exact HT.out.lower HB1.out
             rintro _ w2 ⟨rfl, hb2⟩
             have HB2 : Hid (Below w.heap.size w w2) := Lib.hid (HB1.out.trans (hb2.mono HB1.out.size))
             obtain ⟨z0, z1, z2, z3, z4⟩ := (HX1.out.below hb2 HX1.out.lt).cells
             rw [HS.out]
             clear hb2 y0 y1 y2 y3 y4)
          | (go_at_call 76
             refine (prDepth_any a h _ ?_ ?_).mono ?_
             · rw [← HTA.out]
               exact HT.out.lower HB2.out
             · have := HDE.out
               omega
             rintro _ w3 ⟨rfl, hb3⟩
             have HB3 : Hid (Below w.heap.size w w3) := Lib.hid (HB2.out.trans (hb3.mono HB2.out.size))
             rw [HD1.out]
             clear hb3 z0 z1 z2 z3 z4))
        go_ret
        exact ⟨by rw [HE.out, HD.out]; rfl, HB3.out⟩
      | true =>
        have hd1 : (a.dep != -1) = true := by
          rw [decide_eq_true_eq] at hd
          simpa using hd
        have HD := Lib.hid hd
        clear hd
        generalize hdd : a.dep = dp at *
        have HDD := Lib.hid hdd
        clear hdd
        go_wp2_with (first
          | (go_at_call 74
             refine (full_any t h _ ?_).mono ?_
             · exact HT.out.lower ((Below.refl _ _).alloc (Nat.le_refl _) _)
             rintro _ w1 ⟨rfl, hb1⟩
             have HB1 : Hid (Below w.heap.size w w1) := Lib.hid (((Below.refl w.heap.size w).alloc (Nat.le_refl _) _).trans (hb1.mono (by simp)))
             have HX1 := Lib.hid (HX.out.below hb1 HX.out.lt)
             obtain ⟨y0, y1, y2, y3, y4⟩ := HX1.out.cells
             rw [HQ.out]
             clear hb1 x0 x1 x2 x3 x4)
          | (go_at_call 75
             refine (asc_any a h _ ?_).mono ?_
             · rw [← HTA.out]
               exact HT.out.lower HB1.out
             rintro _ w2 ⟨rfl, hb2⟩
             have HB2 : Hid (Below w.heap.size w w2) := Lib.hid (HB1.out.trans (hb2.mono HB1.out.size))
             obtain ⟨z0, z1, z2, z3, z4⟩ := (HX1.out.below hb2 HX1.out.lt).cells
             rw [HS.out]
             clear hb2 y0 y1 y2 y3 y4)
          | (go_at_call 76
             refine (prDepth_any a h _ ?_ ?_).mono ?_
             · rw [← HTA.out]
               exact HT.out.lower HB2.out
             · have := HDE.out
               omega
             rintro _ w3 ⟨rfl, hb3⟩
             have HB3 : Hid (Below w.heap.size w w3) := Lib.hid (HB2.out.trans (hb3.mono HB2.out.size))
             rw [HDD.out]
             clear hb3 z0 z1 z2 z3 z4))
        go_ret
        exact ⟨by rw [HE.out, HD.out, HS.out]; rfl, HB3.out⟩
end Go.Proofs.YtlbiefddcimdgaaDoor

/- The contracts of the program's Prove. -/
namespace Go.Proofs.YtlbiefddcimdgaaDoor
open Go.RowKit
set_option linter.unusedVariables false

/-- Prove's boxes: the tree, the span, the result. -/
structure ZP (w W : World) (h : TH) (sp : DH) : Prop where
  box : Box W 27 w.heap.size h
  sb : RBox recD W 24 (w.heap.size + 1) sp
  res : Box W 27 (w.heap.size + 2) hZ
  b : Below w.heap.size w W
section
variable {w W W' : World} {h : TH} {sp : DH}
theorem ZP.sz (d : ZP w W h sp) : w.heap.size + 3 ≤ W.heap.size := d.res.lt
theorem ZP.below (d : ZP w W h sp) (hb : Below W.heap.size W W') : ZP w W' h sp := ⟨d.box.below hb d.box.lt, d.sb.below hb d.sb.lt, d.res.below hb d.res.lt, d.b.trans (hb.mono d.b.size)⟩
theorem ZP.enter (w : World) (h : TH) (sp : DH) : ZP w (((w.alloc (.cells #[.int .i64 h.k, .slice h.ka h.kn h.kc, .slice h.va h.vn h.vc, .slice h.da h.dn h.dc, .slice h.ta h.tn h.tc] 27)).alloc (.cells #[.slice sp.ka sp.kn sp.kc, .slice sp.va sp.vn sp.vc, .bool sp.out] 24)).alloc (.cells #[.int .i64 0, .slice none 0 0, .slice none 0 0, .slice none 0 0, .slice none 0 0] 27)) h sp := by
  have q1 : Below w.heap.size w (w.alloc (.cells #[.int .i64 h.k, .slice h.ka h.kn h.kc, .slice h.va h.vn h.vc, .slice h.da h.dn h.dc, .slice h.ta h.tn h.tc] 27)) := (Below.refl _ _).alloc (Nat.le_refl _) _
  have x0 := Box.new w 27 h
  have s1 : (w.alloc (.cells #[.int .i64 h.k, .slice h.ka h.kn h.kc, .slice h.va h.vn h.vc, .slice h.da h.dn h.dc, .slice h.ta h.tn h.tc] 27)).heap.size = w.heap.size + 1 := by simp
  have x1 := DH.box (w.alloc (.cells #[.int .i64 h.k, .slice h.ka h.kn h.kc, .slice h.va h.vn h.vc, .slice h.da h.dn h.dc, .slice h.ta h.tn h.tc] 27)) 24 sp
  have s2 : ((w.alloc (.cells #[.int .i64 h.k, .slice h.ka h.kn h.kc, .slice h.va h.vn h.vc, .slice h.da h.dn h.dc, .slice h.ta h.tn h.tc] 27)).alloc (.cells #[.slice sp.ka sp.kn sp.kc, .slice sp.va sp.vn sp.vc, .bool sp.out] 24)).heap.size = w.heap.size + 2 := by simp
  have x2 := Box.new ((w.alloc (.cells #[.int .i64 h.k, .slice h.ka h.kn h.kc, .slice h.va h.vn h.vc, .slice h.da h.dn h.dc, .slice h.ta h.tn h.tc] 27)).alloc (.cells #[.slice sp.ka sp.kn sp.kc, .slice sp.va sp.vn sp.vc, .bool sp.out] 24)) 27 hZ
  have b1 : Below (w.alloc (.cells #[.int .i64 h.k, .slice h.ka h.kn h.kc, .slice h.va h.vn h.vc, .slice h.da h.dn h.dc, .slice h.ta h.tn h.tc] 27)).heap.size (w.alloc (.cells #[.int .i64 h.k, .slice h.ka h.kn h.kc, .slice h.va h.vn h.vc, .slice h.da h.dn h.dc, .slice h.ta h.tn h.tc] 27)) ((w.alloc (.cells #[.int .i64 h.k, .slice h.ka h.kn h.kc, .slice h.va h.vn h.vc, .slice h.da h.dn h.dc, .slice h.ta h.tn h.tc] 27)).alloc (.cells #[.slice sp.ka sp.kn sp.kc, .slice sp.va sp.vn sp.vc, .bool sp.out] 24)) := (Below.refl _ _).alloc (Nat.le_refl _) _
  have b2 : Below ((w.alloc (.cells #[.int .i64 h.k, .slice h.ka h.kn h.kc, .slice h.va h.vn h.vc, .slice h.da h.dn h.dc, .slice h.ta h.tn h.tc] 27)).alloc (.cells #[.slice sp.ka sp.kn sp.kc, .slice sp.va sp.vn sp.vc, .bool sp.out] 24)).heap.size ((w.alloc (.cells #[.int .i64 h.k, .slice h.ka h.kn h.kc, .slice h.va h.vn h.vc, .slice h.da h.dn h.dc, .slice h.ta h.tn h.tc] 27)).alloc (.cells #[.slice sp.ka sp.kn sp.kc, .slice sp.va sp.vn sp.vc, .bool sp.out] 24)) (((w.alloc (.cells #[.int .i64 h.k, .slice h.ka h.kn h.kc, .slice h.va h.vn h.vc, .slice h.da h.dn h.dc, .slice h.ta h.tn h.tc] 27)).alloc (.cells #[.slice sp.ka sp.kn sp.kc, .slice sp.va sp.vn sp.vc, .bool sp.out] 24)).alloc (.cells #[.int .i64 0, .slice none 0 0, .slice none 0 0, .slice none 0 0, .slice none 0 0] 27)) := (Below.refl _ _).alloc (Nat.le_refl _) _
  have x0' := x0.below b1 x0.lt
  have x1' := x1.below b2 x1.lt
  rw [s1] at x1'
  rw [s2] at x2
  exact ⟨x0'.below b2 x0'.lt, x1', x2, (q1.trans (b1.mono (by rw [s1]; omega))).trans (b2.mono (by rw [s2]; omega))⟩
end

set_option maxRecDepth 100000 in
set_option maxHeartbeats 4000000 in
theorem prove_form (k : Nat) (hk1 : 1 ≤ k) (hk2 : k ≤ 32) (t : Tr) (h : TH) (sp : DH) (f tt : List Int) (w : World) (ht : InTree w h t) (hs : SpanIn w sp f tt) (hb : isT t = false) : Calls Tryd.prog 20 #[.int .i64 k, h.v, sp.v] w (ProveErr w 3) := by
  unfold TH.v DH.v
  have HD := Lib.hid (ZP.enter w h sp)
  have HT := Lib.hid ht
  have HIT := Lib.hid hb
  clear ht hs hb
  go_enter Tryd.func20, Tryd.ntmps20
  go_upto_region 1 with fail
  generalize (((w.alloc (.cells #[.int .i64 h.k, .slice h.ka h.kn h.kc, .slice h.va h.vn h.vc, .slice h.da h.dn h.dc, .slice h.ta h.tn h.tc] 27)).alloc (.cells #[.slice sp.ka sp.kn sp.kc, .slice sp.va sp.vn sp.vc, .bool sp.out] 24)).alloc (.cells #[.int .i64 0, .slice none 0 0, .slice none 0 0, .slice none 0 0, .slice none 0 0] 27)) = w0 at *
  have q1 : ¬ (k : Int) < 1 := by omega
  have q2 : ¬ (32 : Int) < k := by omega
  obtain ⟨x0, x1, x2, x3, x4⟩ := HD.out.box.cells
  go_wp2_with (first
    | (go_at_call 50
       refine (is_any t h _ (HT.out.lower HD.out.b)).mono ?_
       rintro _ w3 ⟨rfl, hb3⟩
       have HD3 := Lib.hid (HD.out.below hb3)
       rw [HIT.out]
       clear hb3 x0 x1 x2 x3 x4)
    | (refine wpList_store_box rfl 27 (.tmp 6) (.tmp 19) rfl (w.heap.size + 2) hZ hZ rfl rfl 27 HD3.out.res infoTree5 ?_
       intro w9 hbx9 hg9
       have HX9 := Lib.hid hbx9
       have HB9 : Hid (Below w.heap.size w w9) := Lib.hid (HD3.out.b.grown hg9 HD3.out.b.size (fun j hj => by injection hj; omega))
       clear hbx9 hg9))
  exact bodyPost_ret (Box.result Tryd.results20 _ HX9.out rfl Tryd.underlying27 infoTree5) rfl ⟨hZ, rfl, inTree_nil _, HB9.out⟩

set_option maxRecDepth 100000 in
set_option maxHeartbeats 4000000 in
theorem prove_ok (k : Nat) (hk1 : 1 ≤ k) (hk2 : k ≤ 32) (a : AT) (h : TH) (sp : DH) (f tt : List Int) (w : World) (ht : InTree w h a.tr) (hs : SpanIn w sp f tt) (hb : isT a.tr = true) (hcn : countT a.tr ≤ 500) (hT : TabLies w) : Calls Tryd.prog 20 #[.int .i64 k, h.v, sp.v] w (ProveOk w (showA k f tt sp.out a)) := by
  unfold TH.v DH.v
  have HD := Lib.hid (ZP.enter w h sp)
  have HT := Lib.hid ht
  have HIT := Lib.hid hb
  have HTT := Lib.hid hT
  have HSP := Lib.hid hs
  have HLD : Hid (Lim a.pairs ∧ a.depth ≤ 64) := Lib.hid (by
    obtain ⟨b, hab, -, -, q1, q2⟩ := (isT_iff _).1 hb
    have e := AT.tr_inj hab
    subst e
    exact ⟨q1, q2⟩)
  clear ht hs hb hT hcn
  go_enter Tryd.func20, Tryd.ntmps20
  go_upto_region 1 with fail
  generalize (((w.alloc (.cells #[.int .i64 h.k, .slice h.ka h.kn h.kc, .slice h.va h.vn h.vc, .slice h.da h.dn h.dc, .slice h.ta h.tn h.tc] 27)).alloc (.cells #[.slice sp.ka sp.kn sp.kc, .slice sp.va sp.vn sp.vc, .bool sp.out] 24)).alloc (.cells #[.int .i64 0, .slice none 0 0, .slice none 0 0, .slice none 0 0, .slice none 0 0] 27)) = w0 at *
  have q1 : ¬ (k : Int) < 1 := by omega
  have q2 : ¬ (32 : Int) < k := by omega
  obtain ⟨x0, x1, x2, x3, x4⟩ := HD.out.box.cells
  go_upto_region 5 with (first
    | (go_at_call 50
       refine (is_any a.tr h _ (HT.out.lower HD.out.b)).mono ?_
       rintro _ w3 ⟨rfl, hb3⟩
       have HD3 := Lib.hid (HD.out.below hb3)
       rw [HIT.out]
       clear hb3 x0 x1 x2 x3 x4))
  obtain ⟨x0, x1, x2, x3, x4⟩ := HD3.out.box.cells
  obtain ⟨y0, y1, y2⟩ := HD3.out.sb.three
  go_wp2_with (first
    | (go_at_call 51
       (with_reducible refine (proof_any k hk1 hk2 sp f tt a h _ ?_ ?_ ?_ HLD.out.1 HLD.out.2).mono ?_)
       · exact HT.out.lower HD3.out.b
       · exact HSP.out.below HD3.out.b
       · exact HTT.out.below HD3.out.b (Nat.le_refl _)
       rintro _ w4 ⟨h4, rfl, f4, hb4⟩
       unfold TH.v
       have HD4 := Lib.hid (HD3.out.below hb4)
       have HF4 : Hid (FreshT (w.heap.size + 3) w4.heap.size w4 h4 (showA k f tt sp.out a)) := Lib.hid (f4.wide HD3.out.sz (Nat.le_refl _))
       clear f4 hb4 x0 x1 x2 x3 x4 y0 y1 y2)
    | (refine wpList_store_box rfl 27 (.tmp 6) (.tmp 26) rfl (w.heap.size + 2) hZ h4 rfl rfl 27 HD4.out.res infoTree5 ?_
       intro w9 hbx9 hg9
       have HX9 := Lib.hid hbx9
       have HF9 : Hid (FreshT w.heap.size w9.heap.size w9 h4 (showA k f tt sp.out a)) := Lib.hid ((HF4.out.grown hg9 (Nat.le_refl _) (.inl (Nat.lt_succ_self _))).wide (Nat.le_add_right _ _) hg9.size)
       have HB9 : Hid (Below w.heap.size w w9) := Lib.hid (HD4.out.b.grown hg9 HD4.out.b.size (fun j hj => by injection hj; omega))
       clear hbx9 hg9))
  exact bodyPost_ret (Box.result Tryd.results20 _ HX9.out rfl Tryd.underlying27 infoTree5) rfl ⟨_, rfl, HF9.out, HB9.out⟩
end Go.Proofs.YtlbiefddcimdgaaDoor
