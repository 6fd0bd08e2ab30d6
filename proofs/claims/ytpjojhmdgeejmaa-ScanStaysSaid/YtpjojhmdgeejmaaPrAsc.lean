/- The contract of the program's look whether keys rise. -/
import Derived.Test.YtpjojhmdgeejmaaPrDepth
import Derived.Test.YtpjojhmdgeejmaaCmp
import Derived.Test.YtpjojhmdgeejmaaTreeNil
import Derived.Test.YtpjojhmdgeejmaaVar
import Derived.Laws.EntriesVeiled
namespace Go.Proofs.Ytpjojhmdgeejmaa
open Go.RowKit
set_option linter.unusedVariables false

/-- Do the keys rise, behind that one? And the last key. -/
def AT.asc : AT → Option (List Int) → Bool × Option (List Int)
  | .nil, o => (true, o)
  | .node l k v r, o => match AT.asc l o with
    | (false, o1) => (false, o1)
    | (true, some q) => if ltL q k then AT.asc r (some k) else (false, some q)
    | (true, none) => AT.asc r (some k)
/-- What rises behind a key. -/
def RiseO (o : Option (List Int)) (l : List KV) : Prop := Rise l ∧ ∀ q, o = some q → ∀ p ∈ l, ltL q p.1 = true
theorem riseO_cons {o : Option (List Int)} {k v : List Int} {b : List KV} : RiseO o ((k, v) :: b) ↔ (∀ q, o = some q → ltL q k = true) ∧ RiseO (some k) b := by
  unfold RiseO Rise
  rw [List.pairwise_cons]
  constructor
  · rintro ⟨⟨h1, h2⟩, h3⟩
    exact ⟨fun q hq => h3 q hq (k, v) (by simp), h2, fun q hq p hp => by injection hq with hq; rw [← hq]; exact h1 p hp⟩
  · rintro ⟨h1, h2, h3⟩
    refine ⟨⟨fun p hp => h3 k rfl p hp, h2⟩, fun q hq p hp => ?_⟩
    rcases List.mem_cons.1 hp with rfl | hp
    · exact h1 q hq
    · exact ltL_trans (h1 q hq) (h3 k rfl p hp)
/-- The last key of a list, or what was last before. -/
def lastK (o : Option (List Int)) : List KV → Option (List Int)
  | [] => o
  | (k, _) :: b => lastK (some k) b
theorem lastK_app : ∀ (a b : List KV) (o : Option (List Int)), lastK o (a ++ b) = lastK (lastK o a) b
  | [], _, _ => rfl
  | (k, v) :: a, b, o => lastK_app a b (some k)
theorem riseO_app : ∀ (a b : List KV) (o : Option (List Int)), RiseO o (a ++ b) ↔ RiseO o a ∧ RiseO (lastK o a) b
  | [], b, o => ⟨fun h => ⟨⟨List.Pairwise.nil, fun _ _ p hp => by cases hp⟩, h⟩, fun h => h.2⟩
  | (k, v) :: a, b, o => by
    rw [List.cons_append, riseO_cons, riseO_cons, riseO_app a b (some k), and_assoc]
    rfl
theorem AT.asc_iff : ∀ (a : AT) (o : Option (List Int)), ((a.asc o).1 = true ↔ RiseO o a.pairs) ∧ ((a.asc o).1 = true → (a.asc o).2 = lastK o a.pairs) := by
  intro a
  induction a with
  | nil => exact fun o => ⟨⟨fun _ => ⟨List.Pairwise.nil, fun _ _ p hp => by cases hp⟩, fun _ => rfl⟩, fun _ => rfl⟩
  | node l k v r ihl ihr =>
    intro o
    have hl := ihl o
    have hr := ihr (some k)
    rw [AT.pairs, riseO_app, riseO_cons, lastK_app, AT.asc]
    cases hq : AT.asc l o with
    | mk b o1 =>
      rw [hq] at hl
      cases b with
      | false =>
        refine ⟨⟨fun h => (by cases h), fun h => ?_⟩, fun h => (by cases h)⟩
        have := hl.1.2 h.1
        cases this
      | true =>
        have e1 := hl.1.1 rfl
        have e2 := hl.2 rfl
        dsimp only at e2
        rw [← e2]
        cases o1 with
        | none =>
          refine ⟨⟨fun h => ⟨e1, fun q hq => (by cases hq), hr.1.1 h⟩, fun h => hr.1.2 h.2.2⟩, fun h => hr.2 h⟩
        | some q =>
          dsimp only
          by_cases c : ltL q k = true
          · rw [if_pos c]
            refine ⟨⟨fun h => ⟨e1, fun q' hq' => (by injection hq' with hq'; rw [← hq']; exact c), hr.1.1 h⟩, fun h => hr.1.2 h.2.2⟩, fun h => hr.2 h⟩
          · rw [if_neg c]
            refine ⟨⟨fun h => (by cases h), fun h => absurd (h.2.1 q rfl) c⟩, fun h => (by cases h)⟩
theorem AT.asc_rise (a : AT) : (a.asc none).1 = true ↔ Rise a.pairs :=
  (AT.asc_iff a none).1.trans ⟨fun h => h.1, fun h => ⟨h, fun _ hq => by cases hq⟩⟩

/-- The node before, in its variable. -/
def LastOK (w : World) (hl : TH) : Option (List Int) → Prop
  | none => hl.k = 0
  | some q => hl.k = 1 ∧ InBytes w hl.ka hl.kn hl.kc q
theorem LastOK.below {w w' : World} {hl : TH} {o : Option (List Int)} (h : LastOK w hl o) (hb : Below w.heap.size w w') : LastOK w' hl o := by
  cases o with
  | none => exact h
  | some q => exact ⟨h.1, h.2.below hb⟩
theorem grownBy.comp {a b c : World} {row : Option Nat} (h : a.grownBy b row) (k : b.grownBy c row) : a.grownBy c row :=
  ⟨k.os.trans h.os, k.tape.trans h.tape, k.output.trans h.output, Nat.le_trans h.size k.size, fun j hj hn => (k.block j (Nat.lt_of_lt_of_le hj h.size) hn).trans (h.block j hj hn)⟩
theorem Below.off {a b : World} (h : Below a.heap.size a b) (row : Option Nat) : a.grownBy b row := ⟨h.os, h.tape, h.output, h.size, fun j hj _ => h.block j hj⟩
/-- The tree's parts stay as they are where another box is written. -/
theorem AT.outAt {W W' : World} {ty : TypeId} {g : Nat} {hh : TH} (hb : Box W ty g hh) (hg : W.grownBy W' (some g)) : ∀ (a : AT) (h : TH) (H : Nat → TH), TreeAt W h a.tr H → TreeAt W' h a.tr H
  | .nil, h, H, hp =>
    have h0 : h.tn = 0 := hp.len.symm
    ⟨hp.hk, hp.hk1, hp.hk2, hp.key.outBox hb hg, hp.val.outBox hb hg, hp.dig.outBox hb hg, ⟨hp.sl.le, hp.sl.max, hp.sl.nil, fun q => by omega⟩, hp.len, fun i hi => absurd hi (Nat.not_lt_zero i)⟩
  | .node l k v r, h, H, hp => by
    have h2 : h.tn = 2 := hp.len.symm
    refine ⟨hp.hk, hp.hk1, hp.hk2, hp.key.outBox hb hg, hp.val.outBox hb hg, hp.dig.outBox hb hg, ⟨hp.sl.le, hp.sl.max, hp.sl.nil, fun q => ?_⟩, hp.len, fun i hi => ?_⟩
    · obtain ⟨g', off, e, hlt, hc⟩ := hp.sl.place q
      have hne : some g' ≠ some g := fun q => by
        injection q with q
        subst q
        have h9 := hc 9 (by omega)
        rw [cell_of_row W g' (off + 9) _ _ (0, 0) hb, Array.getElem?_eq_none (by simp)] at h9
        cases h9
      exact ⟨g', off, e, Nat.lt_of_lt_of_le hlt hg.size, fun i hi => (World.cell?_of_block (a := ⟨g', off + i, none⟩) (hg.block g' hlt hne)).trans (hc i hi)⟩
    · have hi' : i < 2 := hi
      rcases (by omega : i = 0 ∨ i = 1) with rfl | rfl
      · exact AT.outBox hb hg l _ (hp.kids 0 hi)
      · exact AT.outBox hb hg r _ (hp.kids 1 hi)
/-- Inside the closure: its own box of a tree, the tree, the closure's variables. -/
structure AY (w W : World) (h : TH) (a : AT) (H : Nat → TH) (gc gl : Nat) (hl : TH) (o : Option (List Int)) : Prop where
  box : Box W 33 w.heap.size h
  tp : TreeAt W h a.tr H
  clo : Var1 W 40 gc (.func (.func 47) #[] #[.pointer (some ⟨gc, 0, none⟩), .pointer (some ⟨gl, 0, none⟩)])
  last : Box W 33 gl hl
  ok : LastOK W hl o
  ne : gc ≠ gl
  lt : gl < w.heap.size
  b : w.grownBy W (some gl)
theorem AY.below {w W W' : World} {h : TH} {a : AT} {H : Nat → TH} {gc gl : Nat} {hl : TH} {o : Option (List Int)} (d : AY w W h a H gc gl hl o) (hb : Below W.heap.size W W') : AY w W' h a H gc gl hl o :=
  ⟨d.box.below hb d.box.lt, d.tp.below hb, d.clo.below hb d.clo.lt, d.last.below hb d.last.lt, d.ok.below hb, d.ne, d.lt, grownBy.comp d.b (Below.off hb _)⟩
theorem AY.drew {w W : World} {h : TH} {a : AT} {H : Nat → TH} {gc gl : Nat} {hl : TH} {o : Option (List Int)} (d : AY w W h a H gc gl hl o) : AY w W.drew h a H gc gl hl o := d.below (Below.refl _ _).drew
theorem AY.step {w W W' : World} {h : TH} {a : AT} {H : Nat → TH} {gc gl : Nat} {hl hl' : TH} {o o' : Option (List Int)} (d : AY w W h a H gc gl hl o) (hg : W.grownBy W' (some gl)) (hx : Box W' 33 gl hl') (ho : LastOK W' hl' o') : AY w W' h a H gc gl hl' o' :=
  ⟨d.box.grown hg (fun q => by injection q with q; have := d.lt; omega), AT.outAt d.last hg a h H d.tp, d.clo.grown hg (fun q => by injection q with q; exact d.ne q), hx, ho, d.ne, d.lt, grownBy.comp d.b hg⟩
theorem AY.new (w : World) {h : TH} {a : AT} {H : Nat → TH} {gc gl : Nat} {hl : TH} {o : Option (List Int)} (ht : TreeAt w h a.tr H) (hc : Var1 w 40 gc (.func (.func 47) #[] #[.pointer (some ⟨gc, 0, none⟩), .pointer (some ⟨gl, 0, none⟩)])) (hx : Box w 33 gl hl) (ho : LastOK w hl o) (hn : gc ≠ gl) : AY w (w.alloc (.cells #[.int .i64 h.k, .slice h.ka h.kn h.kc, .slice h.va h.vn h.vc, .slice h.da h.dn h.dc, .slice h.ta h.tn h.tc] 33)) h a H gc gl hl o :=
  have q : Below w.heap.size w (w.alloc (.cells #[.int .i64 h.k, .slice h.ka h.kn h.kc, .slice h.va h.vn h.vc, .slice h.da h.dn h.dc, .slice h.ta h.tn h.tc] 33)) := (Below.refl _ _).alloc (Nat.le_refl _) _
  ⟨Box.new w 33 h, ht.below q, hc.below q hc.lt, hx.below q hx.lt, ho.below q, hn, hx.lt, Below.off q _⟩
/-- What the closure tells. -/
def Asc (w : World) (gl : Nat) (p : Bool) (o : Option (List Int)) (e : Ending) (w' : World) : Prop := e = .returned (.bool p) ∧ w.grownBy w' (some gl) ∧ ∃ hl', Box w' 33 gl hl' ∧ LastOK w' hl' o

set_option maxRecDepth 100000 in
set_option maxHeartbeats 4000000 in
theorem ascC_any : ∀ (a : AT) (h : TH) (w : World) (gc gl : Nat) (hl : TH) (o : Option (List Int)), InTree w h a.tr → Var1 w 40 gc (.func (.func 47) #[] #[.pointer (some ⟨gc, 0, none⟩), .pointer (some ⟨gl, 0, none⟩)]) → Box w 33 gl hl → LastOK w hl o → gc ≠ gl →
    Calls Try.prog 47 #[h.v, .pointer (some ⟨gc, 0, none⟩), .pointer (some ⟨gl, 0, none⟩)] w (Asc w gl (a.asc o).1 (a.asc o).2) := by
  intro a
  induction a with
  | nil =>
    intro h w gc gl hl o ht hc hx ho hn
    unfold TH.v
    obtain ⟨H, hp⟩ := ht.parts
    have hk0 : (h.k == 0) = true := by have h2 : h.k = 0 := hp.hk; simp [h2]
    have hd0 := AY.new w hp hc hx ho hn
    have HD0 := Lib.hid hd0
    obtain ⟨x0, x1, x2, x3, x4⟩ := hd0.box.cells
    clear hp ht hc hx ho hn hd0
    go_enter Try.func47, Try.ntmps47
    go_wp2_with fail
    go_ret
    exact ⟨rfl, HD0.out.b, hl, HD0.out.last, HD0.out.ok⟩
  | node l k v r ihl ihr =>
    intro h w gc gl hl o ht hc hx ho hn
    unfold TH.v
    obtain ⟨H, hp⟩ := ht.parts
    have l0 : 0 < (AT.node l k v r).tr.kids.length := by rw [AT.tr_kids]; simp
    have l1 : 1 < (AT.node l k v r).tr.kids.length := by rw [AT.tr_kids]; simp
    have ht1 : (1 : Int) < (h.tn : Int) := by have h2 : h.tn = 2 := hp.len.symm; omega
    have ht0 : 0 < h.tn := by omega
    have hk0 : (h.k == 0) = false := by have h2 : h.k = 1 := hp.hk; simp [h2]
    have hd0 := AY.new w hp hc hx ho hn
    have HD0 := Lib.hid hd0
    obtain ⟨g, off, hta, -, -⟩ := hp.place (by omega)
    have HTA := Lib.hid hta
    cases hq : l.asc o with
    | mk b o1 =>
    have IHL : Hid (∀ (h : TH) (w : World), InTree w h l.tr → Var1 w 40 gc (.func (.func 47) #[] #[.pointer (some ⟨gc, 0, none⟩), .pointer (some ⟨gl, 0, none⟩)]) → Box w 33 gl hl → LastOK w hl o → Calls Try.prog 47 #[h.v, .pointer (some ⟨gc, 0, none⟩), .pointer (some ⟨gl, 0, none⟩)] w (Asc w gl b o1)) := Lib.hid (fun h w a1 a2 a3 a4 => by
      have q := ihl h w gc gl hl o a1 a2 a3 a4 hn
      rw [hq] at q
      exact q)
    have IHR : Hid (∀ (h : TH) (w : World) {hl : TH}, InTree w h r.tr → Var1 w 40 gc (.func (.func 47) #[] #[.pointer (some ⟨gc, 0, none⟩), .pointer (some ⟨gl, 0, none⟩)]) → Box w 33 gl hl → LastOK w hl (some k) → Calls Try.prog 47 #[h.v, .pointer (some ⟨gc, 0, none⟩), .pointer (some ⟨gl, 0, none⟩)] w (Asc w gl (r.asc (some k)).1 (r.asc (some k)).2)) := Lib.hid (fun h w hl a1 a2 a3 a4 => ihr h w gc gl hl (some k) a1 a2 a3 a4 hn)
    have HPN0 : Hid ((AT.node l k v r).asc o = match (b, o1) with
      | (false, o1) => (false, o1)
      | (true, some q) => if ltL q k then AT.asc r (some k) else (false, some q)
      | (true, none) => AT.asc r (some k)) := Lib.hid (by rw [AT.asc, hq])
    have x0 := hd0.box.cells.1
    clear hp ht hc hx ho hn hd0 ihl ihr hq hta
    go_enter Try.func47, Try.ntmps47
    go_upto_region 3 with fail
    generalize w.alloc (.cells #[.int .i64 h.k, .slice h.ka h.kn h.kc, .slice h.va h.vn h.vc, .slice h.da h.dn h.dc, .slice h.ta h.tn h.tc] 33) = w0 at *
    clear x0
    refine wp_region_held_drew (S := (fun W => W.cell? ⟨gc, 0, none⟩ = some (.func (.func 47) #[] #[.pointer (some ⟨gc, 0, none⟩), .pointer (some ⟨gl, 0, none⟩)]) ∧ W.cell? ⟨w.heap.size, 4, none⟩ = some (.slice (some ⟨g, off, none⟩) h.tn h.tc) ∧ W.cell? ⟨g, off, none⟩ = some (.int .i64 (H 0).k) ∧ W.cell? ⟨g, off + 1, none⟩ = some (.slice (H 0).ka (H 0).kn (H 0).kc) ∧ W.cell? ⟨g, off + 2, none⟩ = some (.slice (H 0).va (H 0).vn (H 0).vc) ∧ W.cell? ⟨g, off + 3, none⟩ = some (.slice (H 0).da (H 0).dn (H 0).dc) ∧ W.cell? ⟨g, off + 4, none⟩ = some (.slice (H 0).ta (H 0).tn (H 0).tc))) (by kernel_rfl) ⟨HD0.out.drew.clo.cell, (HD0.out.drew.box.cells.2.2.2.2).trans (by rw [HTA.out]), HD0.out.drew.tp.kid0 HTA.out (by omega)⟩ (fun hHeld => ?_)
    refine take_w (i := 0) (oi := ?oZ301) (v := ?vZ301) ?hiZ301 (by kernel_rfl) (by kernel_rfl) (by kernel_rfl) ?hQZ301 ?hwZ301 ?hyZ301 (by assumption) ?restZ301
    case hiZ301 => (simp only [List.getElem?_toArray, List.getElem?_cons_zero] <;> rfl)
    case hQZ301 => exact (fun _ _ _ h => h)
    case hwZ301 => rfl
    case hyZ301 => (intro w hSw; (try dsimp only at hSw); go_simp; try with_reducible rfl)
    (try simp only [Act.put, List.setIfInBounds_toArray, List.set_cons_zero, List.set_cons_succ])
    refine take_w (i := 1) (oi := ?oZ302) (v := ?vZ302) ?hiZ302 (by kernel_rfl) (by kernel_rfl) (by kernel_rfl) ?hQZ302 ?hwZ302 ?hyZ302 (by assumption) ?restZ302
    case hiZ302 => (simp only [List.getElem?_toArray, List.getElem?_cons_succ, List.getElem?_cons_zero] <;> rfl)
    case hQZ302 => exact (fun _ _ _ h => h)
    case hwZ302 => rfl
    case hyZ302 => (intro w hSw; (try dsimp only at hSw); go_simp; try with_reducible rfl)
    (try simp only [Act.put, List.setIfInBounds_toArray, List.set_cons_zero, List.set_cons_succ])
    refine take_w (i := 2) (oi := ?oZ303) (v := ?vZ303) ?hiZ303 (by kernel_rfl) (by kernel_rfl) (by kernel_rfl) ?hQZ303 ?hwZ303 ?hyZ303 (by assumption) ?restZ303
    case hiZ303 => (simp only [List.getElem?_toArray, List.getElem?_cons_succ, List.getElem?_cons_zero] <;> rfl)
    case hQZ303 => exact (fun _ _ _ h => h)
    case hwZ303 => rfl
    case hyZ303 => (intro w hSw; (try dsimp only at hSw); go_simp; try with_reducible rfl)
    (try simp only [Act.put, List.setIfInBounds_toArray, List.set_cons_zero, List.set_cons_succ])
    refine take_w (i := 3) (oi := ?oZ304) (v := ?vZ304) ?hiZ304 (by kernel_rfl) (by kernel_rfl) (by kernel_rfl) ?hQZ304 ?hwZ304 ?hyZ304 (by assumption) ?restZ304
    case hiZ304 => (simp only [List.getElem?_toArray, List.getElem?_cons_succ, List.getElem?_cons_zero] <;> rfl)
    case hQZ304 => exact (fun _ _ _ h => h)
    case hwZ304 => rfl
    case hyZ304 => (intro w hSw; (try dsimp only at hSw); go_simp; try with_reducible rfl)
    (try simp only [Act.put, List.setIfInBounds_toArray, List.set_cons_zero, List.set_cons_succ])
    refine take_w (i := 4) (oi := ?oZ305) (v := ?vZ305) ?hiZ305 (by kernel_rfl) (by kernel_rfl) (by kernel_rfl) ?hQZ305 ?hwZ305 ?hyZ305 (by assumption) ?restZ305
    case hiZ305 => (simp only [List.getElem?_toArray, List.getElem?_cons_succ, List.getElem?_cons_zero] <;> rfl)
    case hQZ305 => exact (fun _ _ _ h => h)
    case hwZ305 => rfl
    case hyZ305 => (intro w hSw; (try dsimp only at hSw); go_simp; try with_reducible rfl)
    (try simp only [Act.put, List.setIfInBounds_toArray, List.set_cons_zero, List.set_cons_succ])
    refine wpAnyH_ready (rs := [5]) (by kernel_rfl) (by simp) ?_
    refine AllReadyH.cons (o := ?oZ306) ?hiZ306 (fun K hK => ?stZ306) AllReadyH.nil
    case hiZ306 => (simp only [List.getElem?_toArray, List.getElem?_cons_succ, List.getElem?_cons_zero] <;> rfl)
    go_simp
    go_at_call 47
    refine (IHL.out (H 0) _ (HD0.out.drew.tp.kids 0 l0) HD0.out.drew.clo HD0.out.drew.last HD0.out.drew.ok).mono ?_
    rintro _ w2 ⟨rfl, hg2, hl2, hx2, ho2⟩
    have HD2 := Lib.hid (HD0.out.drew.step hg2 hx2 ho2)
    clear hg2 hx2 ho2
    go_simp
    refine hK.out _ _ ?_ (fun hHeld => ?_)
    · (first | exact ⟨HD2.out.clo.cell, (HD2.out.box.cells.2.2.2.2).trans (by rw [HTA.out]), HD2.out.tp.kid0 HTA.out (by omega)⟩ | exact ⟨HD0.out.drew.clo.cell, (HD0.out.drew.box.cells.2.2.2.2).trans (by rw [HTA.out]), HD0.out.drew.tp.kid0 HTA.out (by omega)⟩)
    clear hK K
    (try simp only [Act.put, List.setIfInBounds_toArray, List.set_cons_zero, List.set_cons_succ])
    refine take_w (i := 6) (oi := ?oZ307) (v := ?vZ307) ?hiZ307 (by kernel_rfl) (by kernel_rfl) (by kernel_rfl) ?hQZ307 ?hwZ307 ?hyZ307 (by assumption) ?restZ307
    case hiZ307 => (simp only [List.getElem?_toArray, List.getElem?_cons_succ, List.getElem?_cons_zero] <;> rfl)
    case hQZ307 => exact (fun _ _ _ h => h)
    case hwZ307 => rfl
    case hyZ307 => (intro w hSw; (try dsimp only at hSw); go_simp; try with_reducible rfl)
    (try simp only [Act.put, List.setIfInBounds_toArray, List.set_cons_zero, List.set_cons_succ])
    refine wpAnyH_done (by kernel_rfl) ?_ _
    clear hHeld
    cases b with
    | false =>
      have HPN : Hid ((AT.node l k v r).asc o = (false, o1)) := Lib.hid HPN0.out
      clear HPN0
      simp only [Bool.not_false]
      go_wp2_with fail
      go_ret
      refine ⟨?_, HD2.out.b, hl2, HD2.out.last, ?_⟩
      · (rw [HPN.out] <;> rfl)
      · rw [HPN.out]; exact HD2.out.ok
    | true =>
      simp only [Bool.not_true]
      obtain ⟨x0, x1, x2, x3, x4⟩ := HD2.out.box.cells
      obtain ⟨y0, y1, y2, y3, y4⟩ := HD2.out.last.cells
      cases o1 with
      | none =>
        have HPN : Hid ((AT.node l k v r).asc o = AT.asc r (some k)) := Lib.hid HPN0.out
        clear HPN0
        have hk2 : (hl2.k != 0) = false := by have h2 : hl2.k = 0 := HD2.out.ok; simp [h2]
        go_upto_region 8 with (first
             | (refine wpList_store_box rfl 33 (.tmp 2) (.tmp 26) rfl gl hl2 h rfl rfl 33 HD2.out.last infoTree5 ?_
                intro w4 hbx4 hg4
                have HD4 : Hid (AY w w4 h (AT.node l k v r) H gc gl h (some k)) := Lib.hid (HD2.out.step hg4 hbx4 ⟨HD2.out.tp.hk, HD2.out.tp.key.outBox HD2.out.last hg4⟩)
                clear hbx4 hg4))
        clear x0 x1 x2 x3 x4 y0 y1 y2 y3 y4
        try simp only [Act.put]
        refine wp_region_held_drew (S := (fun W => W.cell? ⟨gc, 0, none⟩ = some (.func (.func 47) #[] #[.pointer (some ⟨gc, 0, none⟩), .pointer (some ⟨gl, 0, none⟩)]) ∧ W.cell? ⟨w.heap.size, 4, none⟩ = some (.slice (some ⟨g, off, none⟩) h.tn h.tc) ∧ W.cell? ⟨g, off + 5, none⟩ = some (.int .i64 (H 1).k) ∧ W.cell? ⟨g, off + 5 + 1, none⟩ = some (.slice (H 1).ka (H 1).kn (H 1).kc) ∧ W.cell? ⟨g, off + 5 + 2, none⟩ = some (.slice (H 1).va (H 1).vn (H 1).vc) ∧ W.cell? ⟨g, off + 5 + 3, none⟩ = some (.slice (H 1).da (H 1).dn (H 1).dc) ∧ W.cell? ⟨g, off + 5 + 4, none⟩ = some (.slice (H 1).ta (H 1).tn (H 1).tc))) (by kernel_rfl) ⟨HD4.out.drew.clo.cell, (HD4.out.drew.box.cells.2.2.2.2).trans (by rw [HTA.out]), HD4.out.drew.tp.kid1 HTA.out (by omega)⟩ (fun hHeld => ?_)
        refine take_w (i := 0) (oi := ?oZ308) (v := ?vZ308) ?hiZ308 (by kernel_rfl) (by kernel_rfl) (by kernel_rfl) ?hQZ308 ?hwZ308 ?hyZ308 (by assumption) ?restZ308
        case hiZ308 => (simp only [List.getElem?_toArray, List.getElem?_cons_zero] <;> rfl)
        case hQZ308 => exact (fun _ _ _ h => h)
        case hwZ308 => rfl
        case hyZ308 => (intro w hSw; (try dsimp only at hSw); go_simp; try with_reducible rfl)
        (try simp only [Act.put, List.setIfInBounds_toArray, List.set_cons_zero, List.set_cons_succ])
        refine take_w (i := 1) (oi := ?oZ309) (v := ?vZ309) ?hiZ309 (by kernel_rfl) (by kernel_rfl) (by kernel_rfl) ?hQZ309 ?hwZ309 ?hyZ309 (by assumption) ?restZ309
        case hiZ309 => (simp only [List.getElem?_toArray, List.getElem?_cons_succ, List.getElem?_cons_zero] <;> rfl)
        case hQZ309 => exact (fun _ _ _ h => h)
        case hwZ309 => rfl
        case hyZ309 => (intro w hSw; (try dsimp only at hSw); go_simp; try with_reducible rfl)
        (try simp only [Act.put, List.setIfInBounds_toArray, List.set_cons_zero, List.set_cons_succ])
        refine take_w (i := 2) (oi := ?oZ310) (v := ?vZ310) ?hiZ310 (by kernel_rfl) (by kernel_rfl) (by kernel_rfl) ?hQZ310 ?hwZ310 ?hyZ310 (by assumption) ?restZ310
        case hiZ310 => (simp only [List.getElem?_toArray, List.getElem?_cons_succ, List.getElem?_cons_zero] <;> rfl)
        case hQZ310 => exact (fun _ _ _ h => h)
        case hwZ310 => rfl
        case hyZ310 => (intro w hSw; (try dsimp only at hSw); go_simp; try with_reducible rfl)
        (try simp only [Act.put, List.setIfInBounds_toArray, List.set_cons_zero, List.set_cons_succ])
        refine take_w (i := 3) (oi := ?oZ311) (v := ?vZ311) ?hiZ311 (by kernel_rfl) (by kernel_rfl) (by kernel_rfl) ?hQZ311 ?hwZ311 ?hyZ311 (by assumption) ?restZ311
        case hiZ311 => (simp only [List.getElem?_toArray, List.getElem?_cons_succ, List.getElem?_cons_zero] <;> rfl)
        case hQZ311 => exact (fun _ _ _ h => h)
        case hwZ311 => rfl
        case hyZ311 => (intro w hSw; (try dsimp only at hSw); go_simp; try with_reducible rfl)
        (try simp only [Act.put, List.setIfInBounds_toArray, List.set_cons_zero, List.set_cons_succ])
        refine take_w (i := 4) (oi := ?oZ312) (v := ?vZ312) ?hiZ312 (by kernel_rfl) (by kernel_rfl) (by kernel_rfl) ?hQZ312 ?hwZ312 ?hyZ312 (by assumption) ?restZ312
        case hiZ312 => (simp only [List.getElem?_toArray, List.getElem?_cons_succ, List.getElem?_cons_zero] <;> rfl)
        case hQZ312 => exact (fun _ _ _ h => h)
        case hwZ312 => rfl
        case hyZ312 => (intro w hSw; (try dsimp only at hSw); go_simp; try with_reducible rfl)
        (try simp only [Act.put, List.setIfInBounds_toArray, List.set_cons_zero, List.set_cons_succ])
        refine wpAnyH_ready (rs := [5]) (by kernel_rfl) (by simp) ?_
        refine AllReadyH.cons (o := ?oZ313) ?hiZ313 (fun K hK => ?stZ313) AllReadyH.nil
        case hiZ313 => (simp only [List.getElem?_toArray, List.getElem?_cons_succ, List.getElem?_cons_zero] <;> rfl)
        go_simp
        go_at_call 47
        refine (IHR.out (H 1) _ (HD4.out.drew.tp.kids 1 l1) HD4.out.drew.clo HD4.out.drew.last HD4.out.drew.ok).mono ?_
        rintro _ w6 ⟨rfl, hg6, hl6, hx6, ho6⟩
        have HD6 := Lib.hid (HD4.out.drew.step hg6 hx6 ho6)
        clear hg6 hx6 ho6
        go_simp
        refine hK.out _ _ ?_ (fun hHeld => ?_)
        · (first | exact ⟨HD6.out.clo.cell, (HD6.out.box.cells.2.2.2.2).trans (by rw [HTA.out]), HD6.out.tp.kid1 HTA.out (by omega)⟩ | exact ⟨HD4.out.drew.clo.cell, (HD4.out.drew.box.cells.2.2.2.2).trans (by rw [HTA.out]), HD4.out.drew.tp.kid1 HTA.out (by omega)⟩)
        clear hK K
        (try simp only [Act.put, List.setIfInBounds_toArray, List.set_cons_zero, List.set_cons_succ])
        refine take_w (i := 6) (oi := ?oZ314) (v := ?vZ314) ?hiZ314 (by kernel_rfl) (by kernel_rfl) (by kernel_rfl) ?hQZ314 ?hwZ314 ?hyZ314 (by assumption) ?restZ314
        case hiZ314 => (simp only [List.getElem?_toArray, List.getElem?_cons_succ, List.getElem?_cons_zero] <;> rfl)
        case hQZ314 => exact (fun _ _ _ h => h)
        case hwZ314 => rfl
        case hyZ314 => (intro w hSw; (try dsimp only at hSw); go_simp; try with_reducible rfl)
        (try simp only [Act.put, List.setIfInBounds_toArray, List.set_cons_zero, List.set_cons_succ])
        refine wpAnyH_done (by kernel_rfl) ?_ _
        clear hHeld
        go_wp2_with fail
        go_ret
        refine ⟨?_, HD6.out.b, hl6, HD6.out.last, ?_⟩
        · (rw [HPN.out] <;> rfl)
        · rw [HPN.out]; exact HD6.out.ok
      | some q =>
        have hk2 : (hl2.k != 0) = true := by have h2 : hl2.k = 1 := HD2.out.ok.1; simp [h2]
        rcases ltL_three q k with c | c | c
        · have HPN := Lib.hid (HPN0.out.trans (if_pos c))
          have HC := Lib.hid (ordL_lt c)
          clear HPN0 c
          go_upto_region 8 with (first
               | (go_at_call 26
                  refine (compare_any q k hl2.ka h.ka hl2.kn h.kn hl2.kc h.kc _ HD2.out.ok.2 HD2.out.tp.key).mono ?_
                  rintro _ w8 ⟨rfl, hw8⟩
                  rw [hw8, HC.out]
                  clear hw8)
               | (refine wpList_store_box rfl 33 (.tmp 2) (.tmp 26) rfl gl hl2 h rfl rfl 33 HD2.out.last infoTree5 ?_
                  intro w4 hbx4 hg4
                  have HD4 : Hid (AY w w4 h (AT.node l k v r) H gc gl h (some k)) := Lib.hid (HD2.out.step hg4 hbx4 ⟨HD2.out.tp.hk, HD2.out.tp.key.outBox HD2.out.last hg4⟩)
                  clear hbx4 hg4))
          clear x0 x1 x2 x3 x4 y0 y1 y2 y3 y4
          try simp only [Act.put]
          refine wp_region_held_drew (S := (fun W => W.cell? ⟨gc, 0, none⟩ = some (.func (.func 47) #[] #[.pointer (some ⟨gc, 0, none⟩), .pointer (some ⟨gl, 0, none⟩)]) ∧ W.cell? ⟨w.heap.size, 4, none⟩ = some (.slice (some ⟨g, off, none⟩) h.tn h.tc) ∧ W.cell? ⟨g, off + 5, none⟩ = some (.int .i64 (H 1).k) ∧ W.cell? ⟨g, off + 5 + 1, none⟩ = some (.slice (H 1).ka (H 1).kn (H 1).kc) ∧ W.cell? ⟨g, off + 5 + 2, none⟩ = some (.slice (H 1).va (H 1).vn (H 1).vc) ∧ W.cell? ⟨g, off + 5 + 3, none⟩ = some (.slice (H 1).da (H 1).dn (H 1).dc) ∧ W.cell? ⟨g, off + 5 + 4, none⟩ = some (.slice (H 1).ta (H 1).tn (H 1).tc))) (by kernel_rfl) ⟨HD4.out.drew.clo.cell, (HD4.out.drew.box.cells.2.2.2.2).trans (by rw [HTA.out]), HD4.out.drew.tp.kid1 HTA.out (by omega)⟩ (fun hHeld => ?_)
          refine take_w (i := 0) (oi := ?oZ315) (v := ?vZ315) ?hiZ315 (by kernel_rfl) (by kernel_rfl) (by kernel_rfl) ?hQZ315 ?hwZ315 ?hyZ315 (by assumption) ?restZ315
          case hiZ315 => (simp only [List.getElem?_toArray, List.getElem?_cons_zero] <;> rfl)
          case hQZ315 => exact (fun _ _ _ h => h)
          case hwZ315 => rfl
          case hyZ315 => (intro w hSw; (try dsimp only at hSw); go_simp; try with_reducible rfl)
          (try simp only [Act.put, List.setIfInBounds_toArray, List.set_cons_zero, List.set_cons_succ])
          refine take_w (i := 1) (oi := ?oZ316) (v := ?vZ316) ?hiZ316 (by kernel_rfl) (by kernel_rfl) (by kernel_rfl) ?hQZ316 ?hwZ316 ?hyZ316 (by assumption) ?restZ316
          case hiZ316 => (simp only [List.getElem?_toArray, List.getElem?_cons_succ, List.getElem?_cons_zero] <;> rfl)
          case hQZ316 => exact (fun _ _ _ h => h)
          case hwZ316 => rfl
          case hyZ316 => (intro w hSw; (try dsimp only at hSw); go_simp; try with_reducible rfl)
          (try simp only [Act.put, List.setIfInBounds_toArray, List.set_cons_zero, List.set_cons_succ])
          refine take_w (i := 2) (oi := ?oZ317) (v := ?vZ317) ?hiZ317 (by kernel_rfl) (by kernel_rfl) (by kernel_rfl) ?hQZ317 ?hwZ317 ?hyZ317 (by assumption) ?restZ317
          case hiZ317 => (simp only [List.getElem?_toArray, List.getElem?_cons_succ, List.getElem?_cons_zero] <;> rfl)
          case hQZ317 => exact (fun _ _ _ h => h)
          case hwZ317 => rfl
          case hyZ317 => (intro w hSw; (try dsimp only at hSw); go_simp; try with_reducible rfl)
          (try simp only [Act.put, List.setIfInBounds_toArray, List.set_cons_zero, List.set_cons_succ])
          refine take_w (i := 3) (oi := ?oZ318) (v := ?vZ318) ?hiZ318 (by kernel_rfl) (by kernel_rfl) (by kernel_rfl) ?hQZ318 ?hwZ318 ?hyZ318 (by assumption) ?restZ318
          case hiZ318 => (simp only [List.getElem?_toArray, List.getElem?_cons_succ, List.getElem?_cons_zero] <;> rfl)
          case hQZ318 => exact (fun _ _ _ h => h)
          case hwZ318 => rfl
          case hyZ318 => (intro w hSw; (try dsimp only at hSw); go_simp; try with_reducible rfl)
          (try simp only [Act.put, List.setIfInBounds_toArray, List.set_cons_zero, List.set_cons_succ])
          refine take_w (i := 4) (oi := ?oZ319) (v := ?vZ319) ?hiZ319 (by kernel_rfl) (by kernel_rfl) (by kernel_rfl) ?hQZ319 ?hwZ319 ?hyZ319 (by assumption) ?restZ319
          case hiZ319 => (simp only [List.getElem?_toArray, List.getElem?_cons_succ, List.getElem?_cons_zero] <;> rfl)
          case hQZ319 => exact (fun _ _ _ h => h)
          case hwZ319 => rfl
          case hyZ319 => (intro w hSw; (try dsimp only at hSw); go_simp; try with_reducible rfl)
          (try simp only [Act.put, List.setIfInBounds_toArray, List.set_cons_zero, List.set_cons_succ])
          refine wpAnyH_ready (rs := [5]) (by kernel_rfl) (by simp) ?_
          refine AllReadyH.cons (o := ?oZ320) ?hiZ320 (fun K hK => ?stZ320) AllReadyH.nil
          case hiZ320 => (simp only [List.getElem?_toArray, List.getElem?_cons_succ, List.getElem?_cons_zero] <;> rfl)
          go_simp
          go_at_call 47
          refine (IHR.out (H 1) _ (HD4.out.drew.tp.kids 1 l1) HD4.out.drew.clo HD4.out.drew.last HD4.out.drew.ok).mono ?_
          rintro _ w6 ⟨rfl, hg6, hl6, hx6, ho6⟩
          have HD6 := Lib.hid (HD4.out.drew.step hg6 hx6 ho6)
          clear hg6 hx6 ho6
          go_simp
          refine hK.out _ _ ?_ (fun hHeld => ?_)
          · (first | exact ⟨HD6.out.clo.cell, (HD6.out.box.cells.2.2.2.2).trans (by rw [HTA.out]), HD6.out.tp.kid1 HTA.out (by omega)⟩ | exact ⟨HD4.out.drew.clo.cell, (HD4.out.drew.box.cells.2.2.2.2).trans (by rw [HTA.out]), HD4.out.drew.tp.kid1 HTA.out (by omega)⟩)
          clear hK K
          (try simp only [Act.put, List.setIfInBounds_toArray, List.set_cons_zero, List.set_cons_succ])
          refine take_w (i := 6) (oi := ?oZ321) (v := ?vZ321) ?hiZ321 (by kernel_rfl) (by kernel_rfl) (by kernel_rfl) ?hQZ321 ?hwZ321 ?hyZ321 (by assumption) ?restZ321
          case hiZ321 => (simp only [List.getElem?_toArray, List.getElem?_cons_succ, List.getElem?_cons_zero] <;> rfl)
          case hQZ321 => exact (fun _ _ _ h => h)
          case hwZ321 => rfl
          case hyZ321 => (intro w hSw; (try dsimp only at hSw); go_simp; try with_reducible rfl)
          (try simp only [Act.put, List.setIfInBounds_toArray, List.set_cons_zero, List.set_cons_succ])
          refine wpAnyH_done (by kernel_rfl) ?_ _
          clear hHeld
          go_wp2_with fail
          go_ret
          refine ⟨?_, HD6.out.b, hl6, HD6.out.last, ?_⟩
          · (rw [HPN.out] <;> rfl)
          · rw [HPN.out]; exact HD6.out.ok
        · have HPN := Lib.hid (HPN0.out.trans (if_neg (by rw [c, ltL_irr]; simp)))
          have HC := Lib.hid (show ordL q k = 0 by rw [c]; exact ordL_eq k)
          clear HPN0 c
          go_wp2_with (first
               | (go_at_call 26
                  refine (compare_any q k hl2.ka h.ka hl2.kn h.kn hl2.kc h.kc _ HD2.out.ok.2 HD2.out.tp.key).mono ?_
                  rintro _ w8 ⟨rfl, hw8⟩
                  rw [hw8, HC.out]
                  clear hw8))
          go_ret
          refine ⟨?_, HD2.out.b, hl2, HD2.out.last, ?_⟩
          · (rw [HPN.out] <;> rfl)
          · rw [HPN.out]; exact HD2.out.ok
        · have HPN := Lib.hid (HPN0.out.trans (if_neg (by rw [ltL_asymm c]; simp)))
          have HC := Lib.hid (ordL_gt c)
          clear HPN0 c
          go_wp2_with (first
               | (go_at_call 26
                  refine (compare_any q k hl2.ka h.ka hl2.kn h.kn hl2.kc h.kc _ HD2.out.ok.2 HD2.out.tp.key).mono ?_
                  rintro _ w8 ⟨rfl, hw8⟩
                  rw [hw8, HC.out]
                  clear hw8))
          go_ret
          refine ⟨?_, HD2.out.b, hl2, HD2.out.last, ?_⟩
          · (rw [HPN.out] <;> rfl)
          · rw [HPN.out]; exact HD2.out.ok
end Go.Proofs.Ytpjojhmdgeejmaa
