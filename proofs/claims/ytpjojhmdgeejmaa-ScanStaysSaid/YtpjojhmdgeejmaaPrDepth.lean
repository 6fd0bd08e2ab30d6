/- The contract of the program's depth of full trees. -/
import Derived.Test.YtpjojhmdgeejmaaTreeBox
import Derived.Test.YtpjojhmdgeejmaaRefTree2
import Derived.Test.YtpjojhmdgeejmaaTake
namespace Go.Proofs.Ytpjojhmdgeejmaa
open Go.RowKit
set_option linter.unusedVariables false

/-- The depth of a balanced tree; -1 of any other. -/
def AT.dep : AT → Int
  | .nil => 0
  | .node l _ _ r => if l.dep = -1 then -1 else if r.dep = -1 ∨ 1 < l.dep - r.dep ∨ 1 < r.dep - l.dep then -1 else 1 + max l.dep r.dep
theorem AT.dep_node (l : AT) (k v : List Int) (r : AT) : (AT.node l k v r).dep = if l.dep = -1 then -1 else if r.dep = -1 ∨ 1 < l.dep - r.dep ∨ 1 < r.dep - l.dep then -1 else 1 + max l.dep r.dep := rfl
theorem AT.dep_iff : ∀ a : AT, (a.bal ∧ a.dep = a.depth) ∨ (¬ a.bal ∧ a.dep = -1) := by
  intro a
  induction a with
  | nil => exact .inl ⟨trivial, rfl⟩
  | node l k v r ihl ihr =>
    rw [AT.dep_node]
    simp only [AT.bal, AT.depth]
    rcases ihl with ⟨b1, e1⟩ | ⟨b1, e1⟩
    · rcases ihr with ⟨b2, e2⟩ | ⟨b2, e2⟩
      · rw [e1, e2]
        by_cases c : l.depth ≤ r.depth + 1 ∧ r.depth ≤ l.depth + 1
        · left
          refine ⟨⟨b1, b2, c⟩, ?_⟩
          rw [if_neg (by omega), if_neg (by omega)]
          omega
        · right
          refine ⟨fun q => c q.2.2, ?_⟩
          rw [if_neg (by omega), if_pos (by omega)]
      · right
        refine ⟨fun q => b2 q.2.1, ?_⟩
        rw [e1, e2, if_neg (by omega), if_pos (.inl rfl)]
    · right
      exact ⟨fun q => b1 q.1, if_pos e1⟩
theorem AT.dep_bal {a : AT} (h : a.bal) : a.dep = a.depth := by
  rcases AT.dep_iff a with q | q
  · exact q.2
  · exact absurd h q.1
theorem AT.dep_le (a : AT) : -1 ≤ a.dep ∧ a.dep ≤ a.depth := by
  rcases AT.dep_iff a with q | q
  · omega
  · omega
set_option maxRecDepth 100000 in
set_option maxHeartbeats 4000000 in
theorem prDepth_any : ∀ (a : AT) (h : TH) (w : World), InTree w h a.tr → a.depth ≤ 1000 → Calls Try.prog 37 #[h.v] w (Says w (.int .i64 a.dep)) := by
  intro a
  induction a with
  | nil =>
    intro h w ht _
    unfold TH.v
    obtain ⟨H, hp⟩ := ht.parts
    have hk0 : (h.k == 0) = true := by have h2 : h.k = 0 := hp.hk; simp [h2]
    have hbox := Box.new w 33 h
    obtain ⟨x0, x1, x2, x3, x4⟩ := hbox.cells
    have HB : Hid (Below w.heap.size w (w.alloc (.cells #[.int .i64 h.k, .slice h.ka h.kn h.kc, .slice h.va h.vn h.vc, .slice h.da h.dn h.dc, .slice h.ta h.tn h.tc] 33))) := Lib.hid ((Below.refl _ _).alloc (Nat.le_refl _) _)
    clear hp ht hbox
    go_enter Try.func37, Try.ntmps37
    go_wp2_with fail
    go_ret
    exact ⟨rfl, HB.out⟩
  | node l k v r ihl ihr =>
    intro h w ht hd
    unfold TH.v
    obtain ⟨H, hp⟩ := ht.parts
    have l0 : 0 < (AT.node l k v r).tr.kids.length := by rw [AT.tr_kids]; simp
    have l1 : 1 < (AT.node l k v r).tr.kids.length := by rw [AT.tr_kids]; simp
    have ht1 : (1 : Int) < (h.tn : Int) := by have h2 : h.tn = 2 := hp.len.symm; omega
    have ht0 : 0 < h.tn := by omega
    have hk0 : (h.k == 0) = false := by have h2 : h.k = 1 := hp.hk; simp [h2]
    simp only [AT.depth] at hd
    have hdl : l.depth ≤ 1000 := by omega
    have hdr : r.depth ≤ 1000 := by omega
    have bl := l.dep_le
    have br := r.dep_le
    have HE0 := Lib.hid (AT.dep_node l k v r)
    have HP := Lib.hid hp
    have IHL := Lib.hid ihl
    have IHR := Lib.hid ihr
    obtain ⟨g, off, hta, -, -⟩ := hp.place (by omega)
    have HTA := Lib.hid hta
    have HD0 := Lib.hid (BW.new w ht)
    clear hp ht ihl ihr hta
    go_enter Try.func37, Try.ntmps37
    go_upto_region 1 with fail
    generalize w.alloc (.cells #[.int .i64 h.k, .slice h.ka h.kn h.kc, .slice h.va h.vn h.vc, .slice h.da h.dn h.dc, .slice h.ta h.tn h.tc] 33) = w0 at *
    obtain ⟨x0, x1, x2, x3, x4⟩ := HD0.out.box.cells
    rw [HTA.out] at x4
    obtain ⟨k0, k1, k2, k3, k4⟩ := (HP.out.below HD0.out.b).kid0 HTA.out (by omega)
    go_upto_region 4 with (first
        | (go_at_call 37
           refine (IHL.out (H 0) _ ((HP.out.below HD0.out.b).kids 0 l0) (by omega)).mono ?_
           rintro _ w1 ⟨rfl, hb1⟩
           have HD1 := Lib.hid (HD0.out.below hb1)
           clear hb1))
    clear x0 x1 x2 x3 x4 k0 k1 k2 k3 k4
    generalize l.dep = d0 at *
    by_cases c0 : d0 = -1
    · have HE := Lib.hid (HE0.out.trans (if_pos c0))
      clear HE0
      subst c0
      go_wp2_with fail
      go_ret
      exact ⟨by rw [HE.out]; rfl, HD1.out.b⟩
    have HE1 := Lib.hid (HE0.out.trans (if_neg c0))
    have c0b : (d0 == -1) = false := by simp [c0]
    obtain ⟨x0, x1, x2, x3, x4⟩ := HD1.out.box.cells
    rw [HTA.out] at x4
    obtain ⟨k0, k1, k2, k3, k4⟩ := (HP.out.below HD1.out.b).kid1 HTA.out (by omega)
    go_upto_region 7 with (first
        | (go_at_call 37
           refine (IHR.out (H 1) _ ((HP.out.below HD1.out.b).kids 1 l1) (by omega)).mono ?_
           rintro _ w2 ⟨rfl, hb2⟩
           have HD2 := Lib.hid (HD1.out.below hb2)
           clear hb2))
    clear x0 x1 x2 x3 x4 k0 k1 k2 k3 k4
    generalize r.dep = d1 at *
    by_cases c1 : d1 = -1
    · have HE := Lib.hid (HE1.out.trans (if_pos (.inl c1)))
      clear HE0 HE1
      subst c1
      go_wp2_with fail
      go_ret
      exact ⟨by rw [HE.out]; rfl, HD2.out.b⟩
    have c1b : (d1 == -1) = false := by simp [c1]
    by_cases c2 : 1 < d0 - d1
    · have HE := Lib.hid (HE1.out.trans (if_pos (.inr (.inl c2))))
      clear HE0 HE1
      go_wp2_with fail
      go_ret
      exact ⟨by rw [HE.out]; rfl, HD2.out.b⟩
    by_cases c3 : 1 < d1 - d0
    · have HE := Lib.hid (HE1.out.trans (if_pos (.inr (.inr c3))))
      clear HE0 HE1
      go_wp2_with fail
      go_ret
      exact ⟨by rw [HE.out]; rfl, HD2.out.b⟩
    have HE := Lib.hid (HE1.out.trans (if_neg (by omega)))
    clear HE0 HE1
    by_cases c4 : d0 < d1
    · have HM : Hid (max d0 d1 = d1) := Lib.hid (by omega)
      go_wp2_with fail
      go_ret
      exact ⟨by rw [HE.out, HM.out]; rfl, HD2.out.b⟩
    · have HM : Hid (max d0 d1 = d0) := Lib.hid (by omega)
      go_wp2_with fail
      go_ret
      exact ⟨by rw [HE.out, HM.out]; rfl, HD2.out.b⟩
theorem prDepthB_any (a : AT) (h : TH) (w : World) (ht : InTree w h a.tr) (hb : a.bal) (hd : a.depth ≤ 1000) : Calls Try.prog 37 #[h.v] w (Says w (.int .i64 a.depth)) := by
  have := prDepth_any a h w ht hd
  rw [AT.dep_bal hb] at this
  exact this

end Go.Proofs.Ytpjojhmdgeejmaa
