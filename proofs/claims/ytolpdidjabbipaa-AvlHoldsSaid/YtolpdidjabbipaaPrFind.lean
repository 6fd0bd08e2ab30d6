/- The contracts of the program's search in AVL trees. -/
import Derived.Test.YtolpdidjabbipaaPrReb
import Derived.Test.YtolpdidjabbipaaCmp
import Derived.Test.YtolpdidjabbipaaTreeNil
import Derived.Deep.LoopGhost
namespace Go.Proofs.Ytolpdidjabbipaa
open Go.RowKit
set_option linter.unusedVariables false

/-- The node with the least key. -/
def AT.low : AT → AT
  | .nil => .nil
  | .node l k v r => if l.isNil then .node l k v r else AT.low l
/-- The node with that key, or nil. -/
def AT.find (key : List Int) : AT → AT
  | .nil => .nil
  | .node l k v r => if ltL key k then AT.find key l else if ltL k key then AT.find key r else .node l k v r
theorem AT.low_node (l : AT) (k v : List Int) (r : AT) : (AT.node l k v r).low = if l.isNil then .node l k v r else l.low := rfl
theorem AT.find_node (key : List Int) (l : AT) (k v : List Int) (r : AT) : (AT.node l k v r).find key = if ltL key k then l.find key else if ltL k key then r.find key else .node l k v r := rfl
theorem AT.low_head : ∀ a : AT, a.isNil = false → ∃ l k v r, a.low = .node l k v r ∧ a.pairs.headD ([], []) = (k, v)
  | .nil, h => by cases h
  | .node l k v r, _ => by
    by_cases hl : l.isNil = true
    · refine ⟨l, k, v, r, ?_, ?_⟩
      · rw [AT.low_node, if_pos hl]
      · rw [AT.isNil_eq hl]; rfl
    · have hl' : l.isNil = false := by simpa using hl
      obtain ⟨l2, k2, v2, r2, e1, e2⟩ := AT.low_head l hl'
      refine ⟨l2, k2, v2, r2, ?_, ?_⟩
      · rw [AT.low_node, if_neg hl]; exact e1
      · rw [AT.pairs]
        have hne := AT.pairs_nil hl'
        cases hp : l.pairs with
        | nil => exact absurd hp hne
        | cons x xs => rw [hp] at e2; exact e2
theorem find_not {l : List KV} {key : List Int} (h : ∀ p ∈ l, p.1 ≠ key) : l.find? (fun p => p.1 == key) = none :=
  List.find?_eq_none.2 fun p hp => by simpa using h p hp
/-- What is found is what the list has. -/
theorem AT.find_get (key : List Int) : ∀ a : AT, Rise a.pairs → (a.find key = .nil ∧ a.get key = none) ∨ (∃ l v r, a.find key = .node l key v r ∧ a.get key = some v) := by
  intro a
  induction a with
  | nil => exact fun _ => .inl ⟨rfl, rfl⟩
  | node l k v r ihl ihr =>
    intro hr
    obtain ⟨h1, h2, h3, h4⟩ := Rise.app (a := l.pairs) (k := k) (v := v) (b := r.pairs) hr
    have hg : (AT.node l k v r).get key = ((l.pairs.find? fun p => p.1 == key).or (((k, v) :: r.pairs).find? fun p => p.1 == key)).map (·.2) := by
      unfold AT.get
      rw [AT.pairs, List.find?_append]
    rw [hg, AT.find_node]
    rcases ltL_three key k with c | c | c
    · rw [if_pos c]
      have e : ((k, v) :: r.pairs).find? (fun p => p.1 == key) = none := find_not fun p hp => by
        rcases List.mem_cons.1 hp with rfl | hp
        · exact fun q => ltL_ne c q.symm
        · exact fun q => ltL_ne (ltL_trans c (h4 p hp)) q.symm
      rw [e, Option.or_none]
      exact ihl h1
    · subst c
      rw [if_neg (by rw [ltL_irr]; simp), if_neg (by rw [ltL_irr]; simp)]
      have e : l.pairs.find? (fun p => p.1 == key) = none := find_not fun p hp q => ltL_ne (h3 p hp) q
      rw [e, Option.none_or, List.find?_cons]
      simp
    · rw [if_neg (by rw [ltL_asymm c]; simp), if_pos c]
      have e : l.pairs.find? (fun p => p.1 == key) = none := find_not fun p hp q => ltL_ne (ltL_trans (h3 p hp) c) q
      have e2 : ((k, v) :: r.pairs).find? (fun p => p.1 == key) = r.pairs.find? (fun p => p.1 == key) := by
        rw [List.find?_cons]
        have : ((k, v).1 == key) = false := by simpa using ltL_ne c
        rw [this]
      rw [e, e2, Option.none_or]
      exact ihr h2
/-- The tree's box is written anew: with a kid's head, the tree going down. -/
theorem LX.down {w W W' : World} {h h' : TH} {t : Tr} {a : AT} (d : LX w W h t) (hx : Box W' 25 w.heap.size h') (hg : W.grownBy W' (some w.heap.size)) (hi : InTree W h' a.tr) : LX w W' h' a.tr :=
  ⟨hx, d.res.grown hg (fun q => by injection q; omega), AT.outBox d.box hg a h' hi, d.b.grown hg d.b.size (fun j hj => by injection hj; omega)⟩

set_option maxRecDepth 100000 in
set_option maxHeartbeats 4000000 in
theorem prLeast_any (a : AT) (h : TH) (w : World) (ht : InTree w h a.tr) (hn : a.isNil = false) :
    Calls Try.prog 48 #[h.v] w (Tells w a.low) := by
  unfold TH.v
  obtain ⟨e1, e2, e3, e4⟩ := enter2 w h
  have HN := Lib.hid hn
  clear hn
  go_enter Try.func48, Try.ntmps48
  go_wp2_with fail
  generalize ((w.alloc (.cells #[.int .i64 h.k, .slice h.ka h.kn h.kc, .slice h.va h.vn h.vc, .slice h.da h.dn h.dc, .slice h.ta h.tn h.tc] 25)).alloc (.cells #[.int .i64 0, .slice none 0 0, .slice none 0 0, .slice none 0 0, .slice none 0 0] 25)) = w0 at *
  have HX0 : Hid (LX w w0 h a.tr) := Lib.hid ⟨e1, e2, ht.lower e3, e3⟩
  clear e1 e2 e3 e4 ht
  go_loopg [8] a.depth (fun n s8 wx => ∃ (b : AT) (hb : TH), LX w wx hb b.tr ∧ b.low = a.low ∧ b.isNil = false ∧ b.depth = n)
  case atStart => exact ⟨a, h, HX0.out, rfl, HN.out, rfl⟩
  case round =>
    clear HX0 HN
    obtain ⟨b, hb, hx, hlow, hnn, hk⟩ := hrel
    cases b with
    | nil => cases hnn
    | node l k v r =>
      obtain ⟨H, hp⟩ := hx.ti.parts
      have l0 : 0 < (AT.node l k v r).tr.kids.length := by rw [AT.tr_kids]; simp
      have ht1 : (1 : Int) < (hb.tn : Int) := by have h2 : hb.tn = 2 := hp.len.symm; omega
      have ht0 : 0 < hb.tn := by omega
      obtain ⟨g, off, hta, -, -⟩ := hp.place (by omega)
      have HTA := Lib.hid hta
      have HK := Lib.hid hk
      have HLOW := Lib.hid (hlow.symm.trans (AT.low_node l k v r))
      have x4 := (hx.box.cells.2.2.2.2).trans (by rw [hta])
      obtain ⟨k0, k1, k2, k3, k4⟩ := hp.kid0 hta (by omega)
      have hi0 : InTree wr (H 0) l.tr := hp.kids 0 l0
      obtain ⟨H', hq⟩ := hi0.parts
      have HI := Lib.hid hi0
      have HX := Lib.hid hx
      by_cases c : l.isNil = true
      · have hk0 : ((H 0).k == 0) = true := by have h2 : (H 0).k = l.tr.k := hq.hk; rw [AT.isNil_eq c] at h2; have h3 : (H 0).k = 0 := h2; simp [h3]
        have HC := Lib.hid c
        obtain ⟨x0, x1, x2, x3, -⟩ := hx.box.cells
        clear hta hq hi0 hp hx hlow hnn hk c
        go_wp2_with (first
          | (refine wpList_store_box rfl 25 (.tmp 2) (.tmp 13) rfl (w.heap.size + 1) hZ hb rfl (by simp only [TH.v, HTA.out]; rfl) 25 HX.out.res infoTree5 ?_
             intro w9 hbx9 hg9
             have HX9 := Lib.hid hbx9
             have HI9 := Lib.hid (AT.outBox HX.out.res hg9 _ _ HX.out.ti)
             have HB9 : Hid (Below w.heap.size w w9) := Lib.hid (HX.out.b.grown hg9 HX.out.b.size (fun j hj => by injection hj; omega))
             clear hbx9 hg9))
        refine bodyPost_ret (v := hb.v) (result_tree Try.results48 _ HX9.out rfl Try.underlying25 infoTree5) rfl ⟨_, rfl, ?_, HB9.out⟩
        rw [HLOW.out, if_pos HC.out]
        exact HI9.out
      · have hk0 : ((H 0).k == 0) = false := by
          have h2 : (H 0).k = l.tr.k := hq.hk
          cases l with
          | nil => exact absurd rfl c
          | node _ _ _ _ => have h3 : (H 0).k = 1 := h2; simp [h3]
        have HC := Lib.hid c
        clear hta hq hi0 hp hx hlow hnn hk c
        go_wp2_with (first
          | (refine wpList_store_box rfl 25 (.tmp 1) (.tmp 12) rfl w.heap.size hb (H 0) rfl rfl 25 HX.out.box infoTree5 ?_
             intro w9 hbx9 hg9
             have HX9 := Lib.hid (HX.out.down hbx9 hg9 HI.out)
             clear hbx9 hg9))
        go_roundg l.depth
        case measure => have := HK.out; simp only [AT.depth] at this; omega
        case rel => exact ⟨l, H 0, HX9.out, ((if_neg HC.out).symm.trans HLOW.out.symm), by simpa using HC.out, rfl⟩

/-- A tree, and whether it is a node. -/
def Finds (w : World) (a : AT) (e : Ending) (w' : World) : Prop := ∃ h', e = .returned (.tuple #[h'.v, .bool (!a.isNil)]) ∧ InTree w' h' a.tr ∧ Below w.heap.size w w'
set_option maxRecDepth 100000 in
set_option maxHeartbeats 4000000 in
theorem prFind_any (key : List Int) (ka : Option Addr) (kn kc : Nat) (a : AT) (h : TH) (w : World) (ht : InTree w h a.tr) (hkb : InBytes w ka kn kc key) :
    Calls Try.prog 30 #[h.v, .slice ka kn kc] w (Finds w (a.find key)) := by
  unfold TH.v
  obtain ⟨e1, e2, e3, e4⟩ := enter2 w h
  have HKB := Lib.hid hkb
  clear hkb
  go_enter Try.func30, Try.ntmps30
  go_wp2_with fail
  generalize ((w.alloc (.cells #[.int .i64 h.k, .slice h.ka h.kn h.kc, .slice h.va h.vn h.vc, .slice h.da h.dn h.dc, .slice h.ta h.tn h.tc] 25)).alloc (.cells #[.int .i64 0, .slice none 0 0, .slice none 0 0, .slice none 0 0, .slice none 0 0] 25)) = w0 at *
  have HX0 : Hid (LX w w0 h a.tr) := Lib.hid ⟨e1, e2, ht.lower e3, e3⟩
  clear e1 e2 e3 e4 ht
  go_loopg [9] a.depth (fun n s9 wx => ∃ (b : AT) (hb : TH), LX w wx hb b.tr ∧ b.find key = a.find key ∧ b.depth = n)
  case atStart => exact ⟨a, h, HX0.out, rfl, rfl⟩
  case round =>
    clear HX0
    obtain ⟨b, hb, hx, hfi, hk⟩ := hrel
    obtain ⟨H, hp⟩ := hx.ti.parts
    have HX := Lib.hid hx
    have HP := Lib.hid hp
    have HK := Lib.hid hk
    cases b with
    | nil =>
      have hk0 : (hb.k == 0) = true := by have h2 : hb.k = 0 := hp.hk; simp [h2]
      have HF : Hid (AT.nil = a.find key) := Lib.hid hfi
      obtain ⟨x0, -, -, -, -⟩ := hx.box.cells
      clear hp hx hfi hk
      go_wp2_with (first
          | (refine wpList_store_box rfl 25 (.tmp 4) (.tmp 29) rfl (w.heap.size + 1) hZ hZ rfl rfl 25 HX.out.res infoTree5 ?_
             intro w9 hbx9 hg9
             have HX9 := Lib.hid hbx9
             have HB9 : Hid (Below w.heap.size w w9) := Lib.hid (HX.out.b.grown hg9 HX.out.b.size (fun j hj => by injection hj; omega))
             clear hbx9 hg9))
      refine bodyPost_ret (v := .tuple #[(hZ : TH).v, .bool false]) (Box.result Try.results30 _ HX9.out rfl Try.underlying25 infoTree5) rfl ⟨hZ, ?_, ?_, HB9.out⟩
      · rw [← HF.out]; rfl
      · rw [← HF.out]; exact inTree_nil _
    | node l k v r =>
      have l0 : 0 < (AT.node l k v r).tr.kids.length := by rw [AT.tr_kids]; simp
      have l1 : 1 < (AT.node l k v r).tr.kids.length := by rw [AT.tr_kids]; simp
      have ht1 : (1 : Int) < (hb.tn : Int) := by have h2 : hb.tn = 2 := hp.len.symm; omega
      have ht0 : 0 < hb.tn := by omega
      have hk0 : (hb.k == 0) = false := by have h2 : hb.k = 1 := hp.hk; simp [h2]
      obtain ⟨g, off, hta, -, -⟩ := hp.place (by omega)
      have HTA := Lib.hid hta
      obtain ⟨x0, x1, x2, x3, x4⟩ := hx.box.cells
      obtain ⟨k0, k1, k2, k3, k4⟩ := hp.kid0 hta (by omega)
      obtain ⟨m0, m1, m2, m3, m4⟩ := hp.kid1 hta (by omega)
      rw [hta] at x4
      rw [AT.find_node] at hfi
      clear hta hp hx hk
      rcases ltL_three key k with c | c | c
      · have HC := Lib.hid (ordL_lt c)
        rw [if_pos c] at hfi
        have HF := Lib.hid hfi
        clear c hfi
        go_wp2_with (first
          | (go_at_call 40
             refine (compare_any key k ka hb.ka kn hb.kn kc hb.kc _ (HKB.out.below HX.out.b) HP.out.key).mono ?_
             rintro _ w8 ⟨rfl, hw8⟩
             rw [hw8, HC.out]
             clear hw8)
          | (refine wpList_store_box rfl 25 (.tmp 2) (.tmp 21) rfl w.heap.size hb (H 0) rfl rfl 25 HX.out.box infoTree5 ?_
             intro w9 hbx9 hg9
             have HX9 := Lib.hid (HX.out.down (a := l) hbx9 hg9 (HP.out.kids 0 l0))
             clear hbx9 hg9))
        go_roundg l.depth
        case measure => have := HK.out; simp only [AT.depth] at this; omega
        case rel => exact ⟨l, H 0, HX9.out, HF.out, rfl⟩
      · have HC := Lib.hid (show ordL key k = 0 by rw [c]; exact ordL_eq k)
        rw [c, if_neg (by rw [ltL_irr]; simp), if_neg (by rw [ltL_irr]; simp)] at hfi
        have HF := Lib.hid hfi
        have HCE := Lib.hid c
        clear c hfi
        go_wp2_with (first
          | (go_at_call 40
             refine (compare_any key k ka hb.ka kn hb.kn kc hb.kc _ (HKB.out.below HX.out.b) HP.out.key).mono ?_
             rintro _ w8 ⟨rfl, hw8⟩
             rw [hw8, HC.out]
             clear hw8)
          | (refine wpList_store_box rfl 25 (.tmp 4) (.tmp 14) rfl (w.heap.size + 1) hZ hb rfl (by simp only [TH.v, HTA.out]; rfl) 25 HX.out.res infoTree5 ?_
             intro w9 hbx9 hg9
             have HX9 := Lib.hid hbx9
             have HB9 : Hid (Below w.heap.size w w9) := Lib.hid (HX.out.b.grown hg9 HX.out.b.size (fun j hj => by injection hj; omega))
             have HI9 := Lib.hid (AT.outBox HX.out.res hg9 _ _ HX.out.ti)
             clear hbx9 hg9))
        refine bodyPost_ret (v := .tuple #[hb.v, .bool true]) (Box.result Try.results30 _ HX9.out rfl Try.underlying25 infoTree5) rfl ⟨hb, ?_, ?_, HB9.out⟩
        · rw [HCE.out, ← HF.out]; rfl
        · rw [HCE.out, ← HF.out]; exact HI9.out
      · have HC := Lib.hid (ordL_gt c)
        rw [if_neg (by rw [ltL_asymm c]; simp), if_pos c] at hfi
        have HF := Lib.hid hfi
        clear c hfi
        go_wp2_with (first
          | (go_at_call 40
             refine (compare_any key k ka hb.ka kn hb.kn kc hb.kc _ (HKB.out.below HX.out.b) HP.out.key).mono ?_
             rintro _ w8 ⟨rfl, hw8⟩
             rw [hw8, HC.out]
             clear hw8)
          | (refine wpList_store_box rfl 25 (.tmp 2) (.tmp 28) rfl w.heap.size hb (H 1) rfl rfl 25 HX.out.box infoTree5 ?_
             intro w9 hbx9 hg9
             have HX9 := Lib.hid (HX.out.down (a := r) hbx9 hg9 (HP.out.kids 1 l1))
             clear hbx9 hg9))
        go_roundg r.depth
        case measure => have := HK.out; simp only [AT.depth] at this; omega
        case rel => exact ⟨r, H 1, HX9.out, HF.out, rfl⟩
end Go.Proofs.Ytolpdidjabbipaa
