/- The contracts of the document's In and Empty of spans. -/
import Derived.Test.YtpjojhmdgeejmaaSpanMath
import Derived.Test.YtpjojhmdgeejmaaTreeBox
namespace Go.Proofs.Ytpjojhmdgeejmaa
open Go.RowKit
set_option linter.unusedVariables false

set_option maxRecDepth 100000 in
set_option maxHeartbeats 4000000 in
theorem refIn_any (h : DH) (f t key : List Int) (ka : Option Addr) (kn kc : Nat) (w : World) (hs : SpanIn w h f t) (hk : InBytes w ka kn kc key) : Calls Try.prog 12 #[h.v, .slice ka kn kc] w (Says w (.bool (inS f t h.out key))) := by
  unfold DH.v
  have q0 : Below w.heap.size w (w.alloc (.cells #[.slice h.ka h.kn h.kc, .slice h.va h.vn h.vc, .bool h.out] 24)) := (Below.refl _ _).alloc (Nat.le_refl _) _
  obtain ⟨x0, x1, x2⟩ := (DH.box w 24 h).three
  have cv0 := conv_key (hs.below q0).f
  have cv1 := conv_key (hs.below q0).t
  have cv2 := conv_key (hk.below q0)
  have hl0 : Op.bytesLess (strOfNums f).toList (strOfNums key).toList = ltL f key := str_lt hs.f.bytes hk.bytes
  have he0 : ((strOfNums f).toList == (strOfNums key).toList) = (f == key) := str_eq hs.f.bytes hk.bytes
  have hl1 : Op.bytesLess (strOfNums key).toList (strOfNums t).toList = ltL key t := str_lt hk.bytes hs.t.bytes
  have hle := le_not f key
  have HB := Lib.hid q0
  clear q0 hs hk
  have HE : Hid (inS f t h.out key = (!ltL key f && (h.out || ltL key t))) := Lib.hid rfl
  go_enter Try.func12, Try.ntmps12
  go_upto_region 1 with fail
  generalize (w.alloc (.cells #[.slice h.ka h.kn h.kc, .slice h.va h.vn h.vc, .bool h.out] 24)) = w0 at *
  generalize hio : inS f t h.out key = io at *
  clear hio
  generalize h.out = oo at *
  rw [← he0, ← hl0] at hle
  clear he0 hl0
  cases c0 : ltL key f with
  | true =>
    have HC0 := Lib.hid c0
    rw [c0, Bool.not_true] at hle
    clear c0
    go_wp2_with fail
    go_ret
    exact ⟨by rw [HE.out, HC0.out]; rfl, HB.out⟩
  | false =>
    have HC0 := Lib.hid c0
    rw [c0, Bool.not_false] at hle
    clear c0
    cases oo with
    | true =>
      go_wp2_with fail
      go_ret
      exact ⟨by rw [HE.out, HC0.out]; rfl, HB.out⟩
    | false =>
      go_wp2_with fail
      go_ret
      exact ⟨by rw [HE.out, HC0.out]; rfl, HB.out⟩

set_option maxRecDepth 100000 in
set_option maxHeartbeats 4000000 in
theorem refEmpty_any (h : DH) (f t low high : List Int) (la ha : Option Addr) (ln lc hn hc : Nat) (hl hh : Bool) (w : World) (hs : SpanIn w h f t) (hlo : InBytes w la ln lc low) (hhi : InBytes w ha hn hc high) (hln : ln ≤ 140737488355328) :
    Calls Try.prog 14 #[h.v, .slice la ln lc, .slice ha hn hc, .bool hl, .bool hh] w (Says w (.bool (emptyS f t h.out low high hl hh))) := by
  unfold DH.v
  have q0 : Below w.heap.size w (w.alloc (.cells #[.slice h.ka h.kn h.kc, .slice h.va h.vn h.vc, .bool h.out] 24)) := (Below.refl _ _).alloc (Nat.le_refl _) _
  obtain ⟨x0, x1, x2⟩ := (DH.box w 24 h).three
  have cv0 := conv_key (hs.below q0).f
  have cv1 := conv_key (hs.below q0).t
  have cv2 := conv_key (hlo.below q0)
  have cv3 := conv_key (hhi.below q0)
  have hlow : Op.bytesLess (strOfNums low).toList (strOfNums f).toList = ltL low f := str_lt hlo.bytes hs.f.bytes
  have hadd : ∀ W : World, (Op.stringOp .add (strOfNums low) ⟨#[0]⟩).run Try.prog W = .ok (.string (strOfNums (low ++ [0]))) W := fun W => by
    have hlen := hlo.len
    unfold Op.stringOp
    have hz : ((strOfNums low).size + (⟨#[0]⟩ : ByteArray).size : Nat) = low.length + 1 := by rw [str_len]; rfl
    simp only [hz]
    have hno : ¬ (((low.length + 1 : Nat) : Int) > IntKind.i64.max) := by
      have e : IntKind.i64.max = 9223372036854775807 := by decide
      rw [e]
      omega
    rw [if_neg hno, str_zero]
    rfl
  have HM : Hid ((∀ x : List Int, Bytes8 x → Op.bytesLess (strOfNums x).toList (strOfNums high).toList = ltL x high) ∧ (∀ x : List Int, Bytes8 x → Op.bytesLess (strOfNums x).toList (strOfNums t).toList = ltL x t) ∧ Bytes8 f ∧ Bytes8 (low ++ [0])) := Lib.hid ⟨fun x hx => str_lt hx hhi.bytes, fun x hx => str_lt hx hs.t.bytes, hs.f.bytes, bytes_zero hlo.bytes⟩
  have HB := Lib.hid q0
  clear q0 hs hlo hhi
  have HE : Hid (emptyS f t h.out low high hl hh = ((hh && !ltL (leastS f low hl) high) || (!h.out && !ltL (leastS f low hl) t))) := Lib.hid rfl
  go_enter Try.func14, Try.ntmps14
  go_upto_region 1 with fail
  generalize (w.alloc (.cells #[.slice h.ka h.kn h.kc, .slice h.va h.vn h.vc, .bool h.out] 24)) = w0 at *
  generalize hio : emptyS f t h.out low high hl hh = io at *
  clear hio
  generalize h.out = oo at *
  have hlea : ∃ le : List Int, le = leastS f low hl ∧ Bytes8 le := ⟨_, rfl, by
    unfold leastS
    split
    · exact HM.out.2.2.2
    · exact HM.out.2.2.1⟩
  obtain ⟨le, hle, hb8⟩ := hlea
  have hx1 := HM.out.1 le hb8
  have hx2 := HM.out.2.1 le hb8
  rw [← hle] at HE
  have HLE := Lib.hid hle
  clear hle hb8 HM
  cases hl with
  | false =>
    have e : le = f := HLE.out
    subst e
    cases hh with
    | false =>
      cases oo with
      | true =>
        go_wp2_with fail
        go_ret
        exact ⟨by rw [HE.out]; rfl, HB.out⟩
      | false =>
        go_wp2_with fail
        go_ret
        exact ⟨by rw [HE.out]; rfl, HB.out⟩
    | true =>
      cases c1 : ltL le high with
      | false =>
        rw [c1] at hx1
        have HC1 := Lib.hid c1
        clear c1
        go_wp2_with fail
        go_ret
        exact ⟨by rw [HE.out, HC1.out]; rfl, HB.out⟩
      | true =>
        rw [c1] at hx1
        have HC1 := Lib.hid c1
        clear c1
        cases oo with
        | true =>
          go_wp2_with fail
          go_ret
          exact ⟨by rw [HE.out, HC1.out]; rfl, HB.out⟩
        | false =>
          go_wp2_with fail
          go_ret
          exact ⟨by rw [HE.out, HC1.out]; rfl, HB.out⟩
  | true =>
    cases c0 : ltL low f with
    | true =>
      have e : le = f := HLE.out.trans (by unfold leastS; rw [c0]; rfl)
      rw [c0] at hlow
      clear c0
      subst e
      cases hh with
      | false =>
        cases oo with
        | true =>
          go_wp2_with fail
          go_ret
          exact ⟨by rw [HE.out]; rfl, HB.out⟩
        | false =>
          go_wp2_with fail
          go_ret
          exact ⟨by rw [HE.out]; rfl, HB.out⟩
      | true =>
        cases c1 : ltL le high with
        | false =>
          rw [c1] at hx1
          have HC1 := Lib.hid c1
          clear c1
          go_wp2_with fail
          go_ret
          exact ⟨by rw [HE.out, HC1.out]; rfl, HB.out⟩
        | true =>
          rw [c1] at hx1
          have HC1 := Lib.hid c1
          clear c1
          cases oo with
          | true =>
            go_wp2_with fail
            go_ret
            exact ⟨by rw [HE.out, HC1.out]; rfl, HB.out⟩
          | false =>
            go_wp2_with fail
            go_ret
            exact ⟨by rw [HE.out, HC1.out]; rfl, HB.out⟩
    | false =>
      have e : le = low ++ [0] := HLE.out.trans (by unfold leastS; rw [c0]; rfl)
      rw [c0] at hlow
      clear c0
      subst e
      cases hh with
      | false =>
        cases oo with
        | true =>
          go_wp2_with fail
          go_ret
          exact ⟨by rw [HE.out]; rfl, HB.out⟩
        | false =>
          go_wp2_with fail
          go_ret
          exact ⟨by rw [HE.out]; rfl, HB.out⟩
      | true =>
        cases c1 : ltL (low ++ [0]) high with
        | false =>
          rw [c1] at hx1
          have HC1 := Lib.hid c1
          clear c1
          go_wp2_with fail
          go_ret
          exact ⟨by rw [HE.out, HC1.out]; rfl, HB.out⟩
        | true =>
          rw [c1] at hx1
          have HC1 := Lib.hid c1
          clear c1
          cases oo with
          | true =>
            go_wp2_with fail
            go_ret
            exact ⟨by rw [HE.out, HC1.out]; rfl, HB.out⟩
          | false =>
            go_wp2_with fail
            go_ret
            exact ⟨by rw [HE.out, HC1.out]; rfl, HB.out⟩
end Go.Proofs.Ytpjojhmdgeejmaa
