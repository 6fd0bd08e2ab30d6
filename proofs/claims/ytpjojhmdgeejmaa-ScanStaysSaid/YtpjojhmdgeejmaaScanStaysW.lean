/- The walk of the law ScanStays. -/
import Derived.Test.YtpjojhmdgeejmaaScanUp
import Derived.Test.YtpjojhmdgeejmaaRefRange
import Derived.Test.YtpjojhmdgeejmaaPrScan
import Derived.Test.YtpjojhmdgeejmaaRefGrown
import Derived.Test.YtpjojhmdgeejmaaPairOwn
import Derived.Test.YtpjojhmdgeejmaaRefSame
import Derived.Test.YtpjojhmdgeejmaaCopy
namespace Go.Proofs.Ytpjojhmdgeejmaa
open Go.RowKit
set_option linter.unusedVariables false

/-- Values that are rows of one's own. -/
def Vals (W : World) (base : Nat) (ps : List PH) : Prop := ∀ i (h : i < ps.length), ∃ bs, Bytes8 bs ∧ W.ownsRow base 5 1 (.slice (ps[i]).va (ps[i]).vn (ps[i]).vc) (ps[i]).vn (bs.map (Value.int .u8))
theorem PV.own {W : World} {base : Nat} {ps : List PH} {kvs : List KV} (x : PV W base ps kvs) : Vals W base ps := fun i h => by
  have p := x.2 i h (by rw [← x.1]; exact h)
  have e := p.pair.2.len
  exact ⟨_, p.vb, by rw [← e]; have q := p.v; rw [e] at q ⊢; exact q⟩
theorem own_set {W : World} {base n g k : Nat} {v : Value} {bs : List Int} (h : W.ownsRow base 5 1 v n (bs.map (Value.int .u8))) (hb : Bytes8 bs) (z : Int) (h0 : 0 ≤ z) (h1 : z ≤ 255) : ∃ bs', Bytes8 bs' ∧ (W.setCell ⟨g, k, none⟩ (.int .u8 z)).ownsRow base 5 1 v n (bs'.map (Value.int .u8)) := by
  rcases h.2 with ⟨rfl, e⟩ | ⟨g', c, cur, rfl, q1, q2, q3⟩
  · exact ⟨bs, hb, h.1, .inl ⟨rfl, e⟩⟩
  · by_cases e : g' = g
    · subst e
      refine ⟨bs.set k z, fun y hy => ?_, own_bump h z⟩
      rcases List.mem_or_eq_of_mem_set hy with q | q
      · exact hb y q
      · subst q
        exact ⟨h0, h1⟩
    · exact ⟨bs, hb, h.1, .inr ⟨g', c, cur, rfl, q1, (Below.heap_setCell W ⟨g, k, none⟩ _ g' e).trans q2, q3⟩⟩
/-- What was told, while its values are written: what stood before stays. -/
structure VS (w W : World) (ra : Option Addr) (r rc : Nat) (rs : List PH) : Prop where
  b : Below w.heap.size w W
  row : OwnR recP W w.heap.size 49 (.slice ra r rc) rs
  vals : Vals W w.heap.size rs
section
variable {w W W' : World} {ra : Option Addr} {r rc : Nat} {rs : List PH}
theorem VS.below (x : VS w W ra r rc rs) (hb : Below W.heap.size W W') : VS w W' ra r rc rs := ⟨x.b.trans (hb.mono x.b.size), x.row.keep hb, fun i h => by
  obtain ⟨bs, q1, q2⟩ := x.vals i h
  exact ⟨bs, q1, own_keep q2 hb⟩⟩
theorem VS.drew (x : VS w W ra r rc rs) : VS w W.drew ra r rc rs := x.below (Below.refl _ _).drew
theorem VS.bump (x : VS w W ra r rc rs) (i : Nat) (hi : i < rs.length) (k : Nat) (hk : k < (rs[i]).vn) : ∃ g z, (rs[i]).va = some ⟨g, 0, none⟩ ∧ W.frozen? ⟨g, k, none⟩ = false ∧ W.cell? ⟨g, k, none⟩ = some (.int .u8 z) ∧ 0 ≤ z ∧ z ≤ 255 ∧ ∀ y, 0 ≤ y → y ≤ 255 → VS w (W.setCell ⟨g, k, none⟩ (.int .u8 y)) ra r rc rs := by
  obtain ⟨bs, hb, ho⟩ := x.vals i hi
  have hin := own_in ho hb
  rcases ho.2 with ⟨q, _⟩ | ⟨g, c, cur, q, hbase, hh, _⟩
  · injection q with _ q
    omega
  · injection q with q1 q2 q3
    obtain ⟨g', off', e, _, hseg⟩ := hin.place (by omega)
    rw [q1] at e
    injection e with e
    injection e with e4 e5
    subst e4 e5
    have hk2 : k < bs.length := by rw [hin.len]; exact hk
    have hz := hb _ (List.getElem_mem hk2)
    have hc := hseg k hk2
    rw [Nat.zero_add] at hc
    refine ⟨g, bs[k], q1, by simp [World.frozen?, hh], hc, hz.1, hz.2, fun y h0 h1 => ⟨x.b.setCell hbase _, ?_, fun j hj => ?_⟩⟩
    · refine World.ownsRow.kept x.row (only_set (only_refl W (some g)) k _) ?_
      have q := own_apart x.row ho (by decide)
      rw [q1] at q
      exact q
    · obtain ⟨bs', hb', ho'⟩ := x.vals j hj
      exact own_set ho' hb' y h0 h1
/-- The i-th value's cell. -/
theorem VS.cell {g : Nat} (x : VS w W (some ⟨g, 0, none⟩) r rc rs) (hl : rs.length = r) (i : Nat) (hi : i < rs.length) : W.cell? ⟨g, i * 2 + 1, none⟩ = some (.slice (rs[i]).va (rs[i]).vn (rs[i]).vc) := by
  subst hl
  obtain ⟨g', e, hc⟩ := x.row.at i hi
  injection e with e
  injection e with e
  subst e
  exact hc 1 _ rfl
theorem VS.place (x : VS w W ra r rc rs) (hl : rs.length = r) (i : Nat) (hi : i < rs.length) : ∃ g, ra = some ⟨g, 0, none⟩ := by
  subst hl
  obtain ⟨g', e, _⟩ := x.row.at i hi
  exact ⟨g', e⟩
theorem VS.len (x : VS w W ra r rc rs) (i : Nat) (hi : i < rs.length) : (rs[i]).vn ≤ 9223372036854775807 := by
  obtain ⟨bs, hb, ho⟩ := x.vals i hi
  have h1 := (own_in ho hb).le
  have h2 := (own_in ho hb).max
  simp only [maxLen] at h2
  omega
end
/-- The law's span, its tree, and the tree's copy. -/
structure YX (w W : World) (sp : DH) (f tt : List Int) (g6 : Nat) (h2 : TH) (g7 : Nat) (h3 : TH) (a : AT) : Prop where
  sx : SX w W sp f tt
  tb : Box W 33 g6 h2
  ti : InTree W h2 a.tr
  cb : Box W 33 g7 h3
  ci : InTree W h3 a.tr
section
variable {w W W' : World} {sp : DH} {f tt : List Int} {g6 g7 : Nat} {h2 h3 : TH} {a : AT}
theorem YX.below (x : YX w W sp f tt g6 h2 g7 h3 a) (hb : Below W.heap.size W W') : YX w W' sp f tt g6 h2 g7 h3 a := ⟨x.sx.below hb, x.tb.below hb x.tb.lt, x.ti.lower hb, x.cb.below hb x.cb.lt, x.ci.lower hb⟩
theorem YX.drew (x : YX w W sp f tt g6 h2 g7 h3 a) : YX w W.drew sp f tt g6 h2 g7 h3 a := x.below (Below.refl _ _).drew
end
theorem count_few {a : AT} (h : a.pairs.length ≤ 60) : countT a.tr ≤ 500 := by
  have e : countT a.tr = 2 * a.pairs.length + 1 := by
    clear h
    induction a with
    | nil => rw [countT_eq]; rfl
    | node l k v r ihl ihr =>
      rw [countT_eq, AT.tr_kids]
      simp only [List.map_cons, List.map_nil, List.sum_cons, List.sum_nil, ihl, ihr, AT.pairs, List.length_append, List.length_cons]
      omega
  omega
theorem AT.light : ∀ a : AT, Lim a.pairs → LightOK a.tr
  | .nil, _ => .mk _ (by simp [AT.tr, Tr.key]) (by simp [AT.tr, Tr.val]) (by simp [AT.tr, Tr.dig]) (by simp [AT.tr, Tr.kids]) (fun i hi => by simp [AT.tr, Tr.kids] at hi)
  | .node l k v r, h => by
    have hk := h (k, v) (by simp [AT.pairs])
    refine .mk _ ?_ ?_ ?_ ?_ ?_
    · show k.length ≤ 3000
      have := hk.1
      simp only at this
      omega
    · show v.length ≤ 3000
      have := hk.2
      simp only at this
      omega
    · simp [AT.tr, Tr.dig]
    · simp [AT.tr, Tr.kids]
    · intro i hi
      have hl := AT.light l (fun p hp => h p (by simp [AT.pairs, hp]))
      have hr := AT.light r (fun p hp => h p (by simp [AT.pairs, hp]))
      have hi2 : i < 2 := hi
      rcases (by omega : i = 0 ∨ i = 1) with rfl | rfl
      · exact hl
      · exact hr

set_option maxRecDepth 100000 in
set_option maxHeartbeats 8000000 in
theorem scanStays_law (la : Option Addr) (n cap : Nat) (D : Nat → PH) (sp : DH) (f tt : List Int) (w : World) (hin : InRec recP w la n cap D) (hkv : ∀ i, i < n → ∃ key val, InBytes w (D i).ka (D i).kn (D i).kc key ∧ InBytes w (D i).va (D i).vn (D i).vc val)
    (hs : SpanIn w sp f tt) :
    Calls Try.prog 8 #[.slice la n cap, sp.v] w (Says w (.bool true)) := by
  unfold DH.v
  have HD0 := Lib.hid (SX.new w hs)
  have HL := Lib.hid (And.intro hin hkv)
  clear hs hin hkv
  go_enter Try.func8, Try.ntmps8
  go_upto_region 3 with (first
    | (go_at_call 9
       refine (up6_any _).mono ?_
       rintro _ w1 ⟨rfl, hb1⟩
       have HD1 := Lib.hid (HD0.out.below hb1)
       clear hb1)
    | (go_at_call 20
       refine (refGrown_any la n cap D _ (HL.out.1.below HD1.out.b) (fun i hi => by
         obtain ⟨key, val, q1, q2⟩ := HL.out.2 i hi
         exact ⟨key, val, q1.below HD1.out.b, q2.below HD1.out.b⟩)).mono ?_
       rintro _ w2 ⟨a, hgood, hlen, h2, rfl, hi2, hb2⟩
       have HD2 := Lib.hid (HD1.out.below hb2)
       have HI2 := Lib.hid hi2
       have HGD := Lib.hid hgood
       have HLEN := Lib.hid hlen
       clear hb2 hi2 hgood hlen)
    | (refine wpList_store_box rfl 33 (.tmp 6) (.tmp 17) rfl w2.heap.size hZ h2 rfl rfl 33 (Box.new w2 33 hZ) infoTree5 ?_
       intro w3 hbx hg
       have qq : Below w2.heap.size w2 w3 := ((Below.refl w2.heap.size w2).alloc (Nat.le_refl _) _).grown hg (by simp) (fun j hj => by injection hj; omega)
       have HD3 := Lib.hid (HD2.out.below qq)
       have HTB3 := Lib.hid hbx
       have HI3 := Lib.hid (HI2.out.lower qq)
       clear hbx hg qq))
  generalize w2.heap.size = g6 at *
  have HIS : Hid (isT a.tr = true) := Lib.hid (HGD.out.is (by have := HLEN.out; omega))
  have HCN : Hid (countT a.tr ≤ 500) := Lib.hid (count_few HLEN.out)
  have HLIM : Hid (Lim a.pairs) := Lib.hid HGD.out.lim
  generalize hk : a.pairs.filter (fun p => inS f tt sp.out p.1) = kvs
  have HKV := Lib.hid hk
  have HKL : Hid (kvs.length ≤ 60) := Lib.hid (by
    have h1 := List.length_filter_le (fun p : KV => inS f tt sp.out p.1) a.pairs
    rw [hk] at h1
    have := HLEN.out
    omega)
  clear hk
  obtain ⟨x0, x1, x2, x3, x4⟩ := HTB3.out.cells
  go_upto_region 4 with (first
    | (go_at_call 22
       refine (copy_any w3 a.tr h2 _ HI3.out (Below.refl _ _) (AT.light a HLIM.out)).mono ?_
       rintro _ w4 ⟨h3, rfl, hf4, hb4⟩
       have HD4 := Lib.hid (HD3.out.below hb4)
       have HTB4 := Lib.hid (HTB3.out.below hb4 HTB3.out.lt)
       have HI4 := Lib.hid (HI3.out.lower hb4)
       have HC4 := Lib.hid (hf4.self hb4 (Nat.le_refl _))
       clear hf4 hb4)
    | (refine wpList_store_box rfl 33 (.tmp 7) (.tmp 19) rfl w4.heap.size hZ h3 rfl rfl 33 (Box.new w4 33 hZ) infoTree5 ?_
       intro w5 hbx hg
       have qq : Below w4.heap.size w4 w5 := ((Below.refl w4.heap.size w4).alloc (Nat.le_refl _) _).grown hg (by simp) (fun j hj => by injection hj; omega)
       have HY5 : Hid (YX w w5 sp f tt g6 h2 w4.heap.size h3 a) := Lib.hid ⟨HD4.out.below qq, HTB4.out.below qq HTB4.out.lt, HI4.out.lower qq, hbx, HC4.out.lower qq⟩
       clear hbx hg qq))
  clear x0 x1 x2 x3 x4
  generalize w4.heap.size = g7 at *
  obtain ⟨x0, x1, x2, x3, x4⟩ := HY5.out.tb.cells
  obtain ⟨z0, z1, z2, z3, z4⟩ := HY5.out.cb.cells
  obtain ⟨y0, y1, y2⟩ := HY5.out.sx.box.three
  go_upto_region 6 with (first
    | (go_at_call 16
       refine (scanRange_own a h3 sp f tt _ HY5.out.ci HY5.out.sx.sp HIS.out HCN.out).mono ?_
       rw [HKV.out]
       rintro _ w6 ⟨ra, r, rc, rs, rfl, ho6, hl6, hp6, hb6⟩
       have HY6 := Lib.hid (HY5.out.below hb6)
       have HV6 : Hid (VS w5 w6 ra r rc rs) := Lib.hid ⟨hb6, ho6, hp6.own⟩
       have HR : Hid (rs.length = r ∧ r ≤ 60) := Lib.hid ⟨hl6, by have := hp6.1; have := HKL.out; omega⟩
       clear x0 x1 x2 x3 x4 z0 z1 z2 z3 z4 y0 y1 y2
       obtain ⟨x0, x1, x2, x3, x4⟩ := HY6.out.tb.cells
       obtain ⟨z0, z1, z2, z3, z4⟩ := HY6.out.cb.cells
       obtain ⟨y0, y1, y2⟩ := HY6.out.sx.box.three
       clear ho6 hl6 hp6 hb6)
    | (go_at_call 23
       refine (refSame_any a.tr h3 h2 _ HY6.out.ci HY6.out.ti).mono ?_
       rintro _ w7 ⟨rfl, hb7⟩
       have HV7 := Lib.hid (HV6.out.below hb7)
       clear hb7 x0 x1 x2 x3 x4 z0 z1 z2 z3 z4 y0 y1 y2))
  clear HV6 HY6
  have hr60 : r ≤ 60 := HR.out.2
  go_wp2_with fail
  go_loopw [11] (fun s11 wx => ∃ i : Nat, i ≤ r ∧ s11 = .int .i64 i ∧ VS w5 wx ra r rc rs) (fun s11 _ => r - (intOf s11).toNat)
  case atStart => exact ⟨0, by omega, rfl, HV7.out⟩
  case round =>
    clear HV7
    obtain ⟨i, hi, rfl, hv⟩ := hrel
    by_cases hlt : i < r
    · have q1 : (i : Int) < (r : Int) := by omega
      have him : i < rs.length := by rw [HR.out.1]; exact hlt
      obtain ⟨gr, hga⟩ := hv.place HR.out.1 i him
      subst hga
      have HV := Lib.hid hv
      have hvl := hv.len i him
      clear hv
      generalize hvn : (rs[i]).vn = vn at *
      generalize hvc : (rs[i]).vc = vc at *
      generalize hva : (rs[i]).va = va at *
      have HVN := Lib.hid (And.intro hvn (And.intro hvc hva))
      clear hvn hvc hva
      go_upto_region 10 with fail
      go_loopw [12] (fun s12 wx => ∃ k : Nat, k ≤ vn ∧ s12 = .int .i64 k ∧ VS w5 wx (some ⟨gr, 0, none⟩) r rc rs) (fun s12 _ => vn - (intOf s12).toNat)
      case atStart => exact ⟨0, by omega, rfl, HV.out⟩
      case round =>
        clear HV
        obtain ⟨k, hk, rfl, hv⟩ := hrel
        have hc := hv.cell HR.out.1 i him
        rw [HVN.out.1, HVN.out.2.1, HVN.out.2.2] at hc
        by_cases hltk : k < vn
        · have q2 : (k : Int) < (vn : Int) := by omega
          obtain ⟨gv, z, hva, hfr, hcz, hz0, hz1, hbump⟩ := hv.drew.bump i him k (by rw [HVN.out.1]; exact hltk)
          rw [HVN.out.2.2] at hva
          subst hva
          have hc2 : wr.drew.cell? ⟨gr, i * 2 + 1, none⟩ = some (.slice (some ⟨gv, 0, none⟩) vn vc) := hc
          have HBU := Lib.hid hbump
          have HCC := Lib.hid (And.intro hc2 hcz)
          clear hbump hv
          go_upto_region 12 with fail
          clear hc hc2 hcz
          refine region_l (S := (fun W => W.cell? ⟨gr, i * 2 + 1, none⟩ = some (.slice (some ⟨gv, 0, none⟩) vn vc) ∧ W.cell? ⟨gv, k, none⟩ = some (.int .u8 z))) 16 (by kernel_rfl) HCC.out (fun hHeld => ?_)
          refine take_l (i := 0) (oi := ?oZ1) (v := ?vZ1) ?hiZ1 (by kernel_rfl) (by kernel_rfl) (by kernel_rfl) (by kernel_rfl) ?hQZ1 ?hwZ1 ?hyZ1 (by assumption) ?restZ1
          case hiZ1 => (simp only [List.getElem?_toArray, List.getElem?_cons_zero] <;> rfl)
          case hQZ1 => exact (fun _ _ _ h => h)
          case hwZ1 => rfl
          case hyZ1 => (intro w hSw; (try dsimp only at hSw); go_simp; try with_reducible rfl)
          (try simp only [Act.put, List.setIfInBounds_toArray, List.set_cons_zero, List.set_cons_succ])
          refine take_l (i := 1) (oi := ?oZ2) (v := ?vZ2) ?hiZ2 (by kernel_rfl) (by kernel_rfl) (by kernel_rfl) (by kernel_rfl) ?hQZ2 ?hwZ2 ?hyZ2 (by assumption) ?restZ2
          case hiZ2 => (simp only [List.getElem?_toArray, List.getElem?_cons_succ, List.getElem?_cons_zero] <;> rfl)
          case hQZ2 => exact (fun _ _ _ h => h)
          case hwZ2 => rfl
          case hyZ2 => (intro w hSw; (try dsimp only at hSw); go_simp; try with_reducible rfl)
          (try simp only [Act.put, List.setIfInBounds_toArray, List.set_cons_zero, List.set_cons_succ])
          refine take_l (i := 2) (oi := ?oZ3) (v := ?vZ3) ?hiZ3 (by kernel_rfl) (by kernel_rfl) (by kernel_rfl) (by kernel_rfl) ?hQZ3 ?hwZ3 ?hyZ3 (by assumption) ?restZ3
          case hiZ3 => (simp only [List.getElem?_toArray, List.getElem?_cons_succ, List.getElem?_cons_zero] <;> rfl)
          case hQZ3 => exact (fun _ _ _ h => h)
          case hwZ3 => rfl
          case hyZ3 => (intro w hSw; (try dsimp only at hSw); go_simp; try with_reducible rfl)
          (try simp only [Act.put, List.setIfInBounds_toArray, List.set_cons_zero, List.set_cons_succ])
          refine take_l (i := 3) (oi := ?oZ4) (v := ?vZ4) ?hiZ4 (by kernel_rfl) (by kernel_rfl) (by kernel_rfl) (by kernel_rfl) ?hQZ4 ?hwZ4 ?hyZ4 (by assumption) ?restZ4
          case hiZ4 => (simp only [List.getElem?_toArray, List.getElem?_cons_succ, List.getElem?_cons_zero] <;> rfl)
          case hQZ4 => exact (fun _ _ _ h => h)
          case hwZ4 => rfl
          case hyZ4 => (intro w hSw; (try dsimp only at hSw); go_simp; try with_reducible rfl)
          (try simp only [Act.put, List.setIfInBounds_toArray, List.set_cons_zero, List.set_cons_succ])
          refine take_l (i := 4) (oi := ?oZ5) (v := ?vZ5) ?hiZ5 (by kernel_rfl) (by kernel_rfl) (by kernel_rfl) (by kernel_rfl) ?hQZ5 ?hwZ5 ?hyZ5 (by assumption) ?restZ5
          case hiZ5 => (simp only [List.getElem?_toArray, List.getElem?_cons_succ, List.getElem?_cons_zero] <;> rfl)
          case hQZ5 => exact (fun _ _ _ h => h)
          case hwZ5 => rfl
          case hyZ5 => (intro w hSw; (try dsimp only at hSw); go_simp; try with_reducible rfl)
          (try simp only [Act.put, List.setIfInBounds_toArray, List.set_cons_zero, List.set_cons_succ])
          refine take_l (i := 5) (oi := ?oZ6) (v := ?vZ6) ?hiZ6 (by kernel_rfl) (by kernel_rfl) (by kernel_rfl) (by kernel_rfl) ?hQZ6 ?hwZ6 ?hyZ6 (by assumption) ?restZ6
          case hiZ6 => (simp only [List.getElem?_toArray, List.getElem?_cons_succ, List.getElem?_cons_zero] <;> rfl)
          case hQZ6 => exact (fun _ _ _ h => h)
          case hwZ6 => rfl
          case hyZ6 => (intro w hSw; (try dsimp only at hSw); go_simp; try with_reducible rfl)
          (try simp only [Act.put, List.setIfInBounds_toArray, List.set_cons_zero, List.set_cons_succ])
          refine take_l (i := 6) (oi := ?oZ7) (v := ?vZ7) ?hiZ7 (by kernel_rfl) (by kernel_rfl) (by kernel_rfl) (by kernel_rfl) ?hQZ7 ?hwZ7 ?hyZ7 (by assumption) ?restZ7
          case hiZ7 => (simp only [List.getElem?_toArray, List.getElem?_cons_succ, List.getElem?_cons_zero] <;> rfl)
          case hQZ7 => exact (fun _ _ _ h => h)
          case hwZ7 => rfl
          case hyZ7 => (intro w hSw; (try dsimp only at hSw); go_simp; try with_reducible rfl)
          (try simp only [Act.put, List.setIfInBounds_toArray, List.set_cons_zero, List.set_cons_succ])
          refine take_l (i := 7) (oi := ?oZ8) (v := ?vZ8) ?hiZ8 (by kernel_rfl) (by kernel_rfl) (by kernel_rfl) (by kernel_rfl) ?hQZ8 ?hwZ8 ?hyZ8 (by assumption) ?restZ8
          case hiZ8 => (simp only [List.getElem?_toArray, List.getElem?_cons_succ, List.getElem?_cons_zero] <;> rfl)
          case hQZ8 => exact (fun _ _ _ h => h)
          case hwZ8 => rfl
          case hyZ8 => (intro w hSw; (try dsimp only at hSw); go_simp; try with_reducible rfl)
          (try simp only [Act.put, List.setIfInBounds_toArray, List.set_cons_zero, List.set_cons_succ])
          refine take_l (i := 8) (oi := ?oZ9) (v := ?vZ9) ?hiZ9 (by kernel_rfl) (by kernel_rfl) (by kernel_rfl) (by kernel_rfl) ?hQZ9 ?hwZ9 ?hyZ9 (by assumption) ?restZ9
          case hiZ9 => (simp only [List.getElem?_toArray, List.getElem?_cons_succ, List.getElem?_cons_zero] <;> rfl)
          case hQZ9 => exact (fun _ _ _ h => h)
          case hwZ9 => rfl
          case hyZ9 => (intro w hSw; (try dsimp only at hSw); go_simp; try with_reducible rfl)
          (try simp only [Act.put, List.setIfInBounds_toArray, List.set_cons_zero, List.set_cons_succ])
          refine take_l (i := 9) (oi := ?oZ10) (v := ?vZ10) ?hiZ10 (by kernel_rfl) (by kernel_rfl) (by kernel_rfl) (by kernel_rfl) ?hQZ10 ?hwZ10 ?hyZ10 (by assumption) ?restZ10
          case hiZ10 => (simp only [List.getElem?_toArray, List.getElem?_cons_succ, List.getElem?_cons_zero] <;> rfl)
          case hQZ10 => exact (fun _ _ _ h => h)
          case hwZ10 => rfl
          case hyZ10 => (intro w hSw; (try dsimp only at hSw); go_simp; try with_reducible rfl)
          (try simp only [Act.put, List.setIfInBounds_toArray, List.set_cons_zero, List.set_cons_succ])
          refine take_l (i := 10) (oi := ?oZ11) (v := ?vZ11) ?hiZ11 (by kernel_rfl) (by kernel_rfl) (by kernel_rfl) (by kernel_rfl) ?hQZ11 ?hwZ11 ?hyZ11 (by assumption) ?restZ11
          case hiZ11 => (simp only [List.getElem?_toArray, List.getElem?_cons_succ, List.getElem?_cons_zero] <;> rfl)
          case hQZ11 => exact (fun _ _ _ h => h)
          case hwZ11 => rfl
          case hyZ11 => (intro w hSw; (try dsimp only at hSw); go_simp; try with_reducible rfl)
          (try simp only [Act.put, List.setIfInBounds_toArray, List.set_cons_zero, List.set_cons_succ])
          refine take_l (i := 11) (oi := ?oZ12) (v := ?vZ12) ?hiZ12 (by kernel_rfl) (by kernel_rfl) (by kernel_rfl) (by kernel_rfl) ?hQZ12 ?hwZ12 ?hyZ12 (by assumption) ?restZ12
          case hiZ12 => (simp only [List.getElem?_toArray, List.getElem?_cons_succ, List.getElem?_cons_zero] <;> rfl)
          case hQZ12 => exact (fun _ _ _ h => h)
          case hwZ12 => rfl
          case hyZ12 => (intro w hSw; (try dsimp only at hSw); go_simp; try with_reducible rfl)
          (try simp only [Act.put, List.setIfInBounds_toArray, List.set_cons_zero, List.set_cons_succ])
          refine take_l (i := 12) (oi := ?oZ13) (v := ?vZ13) ?hiZ13 (by kernel_rfl) (by kernel_rfl) (by kernel_rfl) (by kernel_rfl) ?hQZ13 ?hwZ13 ?hyZ13 (by assumption) ?restZ13
          case hiZ13 => (simp only [List.getElem?_toArray, List.getElem?_cons_succ, List.getElem?_cons_zero] <;> rfl)
          case hQZ13 => exact (fun _ _ _ h => h)
          case hwZ13 => rfl
          case hyZ13 => (intro w hSw; (try dsimp only at hSw); go_simp; try with_reducible rfl)
          (try simp only [Act.put, List.setIfInBounds_toArray, List.set_cons_zero, List.set_cons_succ])
          refine take_l (i := 13) (oi := ?oZ14) (v := ?vZ14) ?hiZ14 (by kernel_rfl) (by kernel_rfl) (by kernel_rfl) (by kernel_rfl) ?hQZ14 ?hwZ14 ?hyZ14 (by assumption) ?restZ14
          case hiZ14 => (simp only [List.getElem?_toArray, List.getElem?_cons_succ, List.getElem?_cons_zero] <;> rfl)
          case hQZ14 => exact (fun _ _ _ h => h)
          case hwZ14 => rfl
          case hyZ14 => (intro w hSw; (try dsimp only at hSw); go_simp; try with_reducible rfl)
          (try simp only [Act.put, List.setIfInBounds_toArray, List.set_cons_zero, List.set_cons_succ])
          refine take_l (i := 14) (oi := ?oZ15) (v := ?vZ15) ?hiZ15 (by kernel_rfl) (by kernel_rfl) (by kernel_rfl) (by kernel_rfl) ?hQZ15 ?hwZ15 ?hyZ15 (by assumption) ?restZ15
          case hiZ15 => (simp only [List.getElem?_toArray, List.getElem?_cons_succ, List.getElem?_cons_zero] <;> rfl)
          case hQZ15 => exact (fun _ _ _ h => h)
          case hwZ15 => rfl
          case hyZ15 => (intro w hSw; (try dsimp only at hSw); go_simp; try with_reducible rfl)
          (try simp only [Act.put, List.setIfInBounds_toArray, List.set_cons_zero, List.set_cons_succ])
          refine take_l (i := 15) (oi := ?oZ16) (v := ?vZ16) ?hiZ16 (by kernel_rfl) (by kernel_rfl) (by kernel_rfl) (by kernel_rfl) ?hQZ16 ?hwZ16 ?hyZ16 (by assumption) ?restZ16
          case hiZ16 => (simp only [List.getElem?_toArray, List.getElem?_cons_succ, List.getElem?_cons_zero] <;> rfl)
          case hQZ16 => exact (fun _ _ _ h => h)
          case hwZ16 => rfl
          case hyZ16 => (intro w hSw; (try dsimp only at hSw); go_simp; try with_reducible rfl)
          (try simp only [Act.put, List.setIfInBounds_toArray, List.set_cons_zero, List.set_cons_succ])
          refine last_l (o := ?oZ17) (by kernel_rfl) ?hiZ17 (by kernel_rfl) (fun K hK => ?stZ17)
          case hiZ17 => (simp only [List.getElem?_toArray, List.getElem?_cons_succ, List.getElem?_cons_zero] <;> rfl)
          go_simp
          refine hK.out _ _ ?_
          clear hK K
          (try simp only [Act.put])
          
          clear HCC
          go_wp2_with fail
          exact ⟨⟨k + 1, by omega, by go_num, HBU.out _ (by first | omega | (rw [IntKind.wrap_u8]; omega)) (by first | omega | (rw [IntKind.wrap_u8]; omega))⟩, by simp [intOf]; omega⟩
        · obtain rfl : k = vn := by omega
          have q2 : ¬ (k : Int) < (k : Int) := by omega
          have HV2 := Lib.hid hv
          clear hv
          go_wp2_with fail
          exact ⟨⟨i + 1, by omega, by go_num, HV2.out⟩, by simp [intOf]; omega⟩
    · obtain rfl : i = r := by omega
      have q1 : ¬ (i : Int) < (i : Int) := by omega
      have HY8 := Lib.hid (HY5.out.below hv.b)
      clear hv HY5 HR hr60
      obtain ⟨x0, x1, x2, x3, x4⟩ := HY8.out.tb.cells
      obtain ⟨z0, z1, z2, z3, z4⟩ := HY8.out.cb.cells
      obtain ⟨y0, y1, y2⟩ := HY8.out.sx.box.three
      go_wp2_with (first
        | (go_at_call 16
           refine (scanRange_ok a h3 sp f tt _ HY8.out.ci HY8.out.sx.sp HIS.out HCN.out).mono ?_
           rw [HKV.out]
           rintro _ w9 ⟨ra9, r9, rc9, rs9, rfl, ho9, hl9, hp9, -, hb9⟩
           have HY9 := Lib.hid (HY8.out.below hb9)
           have e9 : r9 = kvs.length := by rw [← hl9, hp9.1]
           subst e9
           have HR9 : Hid (InRec recP w9 ra9 kvs.length rc9 (fun i => rs9.getD i pZ) ∧ PairsD w9 (fun i => rs9.getD i pZ) kvs) := Lib.hid ⟨(ho9.inRec pZ).2, hp9.byD⟩
           clear x0 x1 x2 x3 x4 z0 z1 z2 z3 z4 y0 y1 y2
           obtain ⟨x0, x1, x2, x3, x4⟩ := HY9.out.tb.cells
           obtain ⟨z0, z1, z2, z3, z4⟩ := HY9.out.cb.cells
           obtain ⟨y0, y1, y2⟩ := HY9.out.sx.box.three
           clear ho9 hl9 hp9 hb9)
        | (go_at_call 19
           refine (refRange_any a h2 sp f tt _ HY9.out.ti HLIM.out HCN.out HY9.out.sx.sp).mono ?_
           rw [HKV.out]
           rintro _ w10 ⟨ra10, r10, rc10, rs10, rfl, ho10, hl10, hp10, hb10⟩
           have HY10 := Lib.hid (HY9.out.below hb10)
           have e10 : r10 = kvs.length := by rw [← hl10, hp10.1]
           subst e10
           have HR10 := Lib.hid (And.intro (HR9.out.1.below hb10) (HR9.out.2.below hb10))
           have HS10 : Hid (InRec recP w10 ra10 kvs.length rc10 (fun i => rs10.getD i pZ) ∧ PairsD w10 (fun i => rs10.getD i pZ) kvs) := Lib.hid ⟨(ho10.inRec pZ).2, (hp10.below hb10).byD⟩
           clear ho10 hl10 hp10 hb10)
        | (go_at_call 18
           refine (refSameP_any kvs _ _ ra9 ra10 kvs.length rc9 rc10 _ rfl HR10.out.1 HS10.out.1 HR10.out.2 HS10.out.2).mono ?_
           rintro _ w11 ⟨rfl, hb11⟩
           have HY11 := Lib.hid (HY10.out.below hb11)
           clear x0 x1 x2 x3 x4 z0 z1 z2 z3 z4 y0 y1 y2
           obtain ⟨x0, x1, x2, x3, x4⟩ := HY11.out.tb.cells
           obtain ⟨z0, z1, z2, z3, z4⟩ := HY11.out.cb.cells
           obtain ⟨y0, y1, y2⟩ := HY11.out.sx.box.three
           clear hb11)
        | (go_at_call 23
           refine (refSame_any a.tr h3 h2 _ HY11.out.ci HY11.out.ti).mono ?_
           rintro _ w12 ⟨rfl, hb12⟩
           have HY12 := Lib.hid (HY11.out.below hb12)
           clear hb12))
      go_ret
      exact ⟨rfl, HY12.out.sx.b⟩
end Go.Proofs.Ytpjojhmdgeejmaa
