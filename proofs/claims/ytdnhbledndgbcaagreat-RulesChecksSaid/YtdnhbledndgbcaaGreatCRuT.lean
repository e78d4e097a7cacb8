/-
  May a relation, may a schema be printed (conciergeref11's mayRel, May)? Condition: it is there.
  Schemas by number, as the document's rules see them: the number of a type, of a relation; what is wrong with an expression, a relation, a schema, but for cycles. No program is named.
  The number of a type, of a relation; a relation by its names (conciergeref12's typ, rel, Find). Condition: the schema is there.
-/
import Derived.Test.YtdnhbledndgbcaaGreatCLaF
namespace Go.Proofs.YtdnhbledndgbcaaGreat
open Go.RowKit
def mayRf (r : Rf) : Bool := nameL r.1 && (r.2.isEmpty || nameL r.2)
def mayR (x : Rl) : Bool := nameL x.name && (x.refs.all mayRf && (decide (0 < x.refs.length) || mayE x.expr 12))
def mayT (t : Ty) : Bool := nameL t.name && t.rels.all mayR
def mayS (s : Sc) : Bool := s.all mayT
theorem all_drop {α : Type} {p : α → Bool} {xs : List α} {j : Nat} (h : j < xs.length) : (xs.drop j).all p = (p xs[j] && (xs.drop (j + 1)).all p) := by
  rw [List.drop_eq_getElem_cons h, List.all_cons]
theorem RowAt.pairS {W : World} {F : Nat → Prop} {A : Option Addr} {ks : List Rf} (h : RowAt 2 RfAt W F A ks) {j : Nat} (hj : j < ks.length) : small ks[j].1 ∧ small ks[j].2 := by
  rcases h with rfl | ⟨b, off, rfl, hb, _, hk⟩
  · simp at hj
  · obtain ⟨cs, ⟨rfl, h1, h2⟩, _⟩ := hk j hj
    exact ⟨h1, h2⟩
set_option maxHeartbeats 2000000 in
theorem mayRel_any (x : Rl) (W : World) (F : Nat → Prop) (cs : List Value) (hx : RlAt W F x cs) :
    Calls Tryz.prog 63 #[.agg cs.toArray] W fun r w' => r = .returned (.bool (mayR x)) ∧ Below W.heap.size W w' := by
  obtain ⟨A, c, k, n, o, E, m, d, rfl, ⟨hn, hl⟩, hr, he⟩ := hx.six
  obtain ⟨v, hv⟩ : ∃ v, v = mayR x := ⟨_, rfl⟩
  rw [← hv]
  unfold mayR at hv
  obtain ⟨a, rs, ex⟩ := x
  dsimp only at *
  show Calls _ _ #[.agg #[strV a, .slice A rs.length c, .int .i64 k, strV n, strV o, .slice E m d]] _ _
  obtain ⟨W1, hW⟩ : ∃ W1, W1 = W.alloc (.cells #[strV a, .slice A rs.length c, .int .i64 k, strV n, strV o, .slice E m d] 46) := ⟨_, rfl⟩
  have HK0 : Hid (Blk W1 W.heap.size [strV a, .slice A rs.length c, .int .i64 k, strV n, strV o, .slice E m d] 46) := by rw [hW]; exact Lib.hid (Blk.new W _ _)
  have HB0 : Hid (Below W.heap.size W W1) := by rw [hW]; exact Lib.hid ((Below.refl W.heap.size W).alloc (Nat.le_refl _) _)
  have HNa := Lib.hid (fun W => refName_txt a W hn)
  have HR := Lib.hid hr
  have HE := Lib.hid he
  have HW := Lib.hid hW
  clear hr he hx hW
  obtain ⟨q, hq⟩ : ∃ q, nameL a = q := ⟨_, rfl⟩
  rw [hq] at HNa hv
  have HV := Lib.hid hv
  clear hq hv
  cases q
  · go_enter Tryz.func63, Tryz.ntmps63
    go_wp2_with (go_at_call 62; with_reducible refine (HNa.out _).mono ?_; rintro e w2 ⟨rfl, rfl⟩)
    go_ret
    exact ⟨by rw [HV.out]; rfl, by rw [← HW.out]; exact HB0.out⟩
  · go_enter Tryz.func63, Tryz.ntmps63
    go_wp2_with (go_at_call 62; with_reducible refine (HNa.out _).mono ?_; rintro e w2 ⟨rfl, rfl⟩)
    rw [← HW.out]
    go_loopw [4] (fun i wr => ∃ j : Nat, j ≤ rs.length ∧ i = .int .i64 j ∧ Hid (((rs.drop j).all mayRf && (decide (0 < rs.length) || mayE ex 12)) = v) ∧ Hid (Below W1.heap.size W1 wr)) (fun i _ => rs.length - (intOf i).toNat)
    case atStart => exact ⟨0, by omega, rfl, Lib.hid (by rw [HV.out]; simp), Lib.hid (Below.refl _ _)⟩
    case round =>
      obtain ⟨j, hj, rfl, HQ, BW⟩ := hrel
      by_cases hlt : j < rs.length
      · have HD := Lib.hid (all_drop (p := mayRf) hlt)
        have x1 := (HK0.out.below BW.out HK0.out.lt).cell (i := 1) (by simp)
        simp only [List.getElem_cons_succ, List.getElem_cons_zero] at x1
        obtain ⟨b, off, rfl, hc⟩ := HR.out.pair hlt
        obtain ⟨z0, z1⟩ := hc wr (HB0.out.trans (BW.out.mono HB0.out.size))
        obtain ⟨s1, s2⟩ := HR.out.pairS hlt
        have HM : Hid (mayRf rs[j] = (nameL rs[j].1 && (rs[j].2.isEmpty || nameL rs[j].2))) := Lib.hid rfl
        rw [HM.out] at HD
        generalize rs[j].1 = p1 at *
        generalize rs[j].2 = p2 at *
        have HN1 := Lib.hid (fun W => refName_txt p1 W s1)
        have HN2 := Lib.hid (fun W => refName_txt p2 W s2)
        obtain ⟨q1, hq1⟩ : ∃ q, nameL p1 = q := ⟨_, rfl⟩
        obtain ⟨q2, hq2⟩ : ∃ q, nameL p2 = q := ⟨_, rfl⟩
        rw [hq1] at HN1 HD
        rw [hq2] at HN2 HD
        clear hc HM hq1 hq2 s1 s2
        cases q1
        · have HQ2 : Hid (v = false) := by show _ = _; rw [← HQ.out, HD.out]; rfl
          go_wp2_with (first
            | (go_at_call 62; with_reducible refine (HN1.out _).mono ?_; rintro e w2 ⟨rfl, rfl⟩)
            | (go_at_call 62; with_reducible refine (HN2.out _).mono ?_; rintro e w3 ⟨rfl, rfl⟩))
          go_ret
          exact ⟨by rw [HQ2.out]; rfl, HB0.out.trans (BW.out.mono HB0.out.size)⟩
        · by_cases hp : p2 = []
          · subst hp
            have HQ2 : Hid (((rs.drop (j + 1)).all mayRf && (decide (0 < rs.length) || mayE ex 12)) = v) := by show _ = _; rw [← HQ.out, HD.out]; rfl
            go_wp2_with (first
              | (go_at_call 62; with_reducible refine (HN1.out _).mono ?_; rintro e w2 ⟨rfl, rfl⟩)
              | (go_at_call 62; with_reducible refine (HN2.out _).mono ?_; rintro e w3 ⟨rfl, rfl⟩))
            go_roundw
            case rel => exact ⟨j + 1, by omega, by go_num, HQ2, BW⟩
            case measure => simp [intOf]; omega
          · have he := nonempty hp
            cases q2
            · have HQ2 : Hid (v = false) := by show _ = _; rw [← HQ.out, HD.out, he]; rfl
              go_wp2_with (first
                | (go_at_call 62; with_reducible refine (HN1.out _).mono ?_; rintro e w2 ⟨rfl, rfl⟩)
                | (go_at_call 62; with_reducible refine (HN2.out _).mono ?_; rintro e w3 ⟨rfl, rfl⟩))
              go_ret
              exact ⟨by rw [HQ2.out]; rfl, HB0.out.trans (BW.out.mono HB0.out.size)⟩
            · have HQ2 : Hid (((rs.drop (j + 1)).all mayRf && (decide (0 < rs.length) || mayE ex 12)) = v) := by show _ = _; rw [← HQ.out, HD.out, he]; rfl
              go_wp2_with (first
                | (go_at_call 62; with_reducible refine (HN1.out _).mono ?_; rintro e w2 ⟨rfl, rfl⟩)
                | (go_at_call 62; with_reducible refine (HN2.out _).mono ?_; rintro e w3 ⟨rfl, rfl⟩))
              go_roundw
              case rel => exact ⟨j + 1, by omega, by go_num, HQ2, BW⟩
              case measure => simp [intOf]; omega
      · have HQ2 : Hid ((decide (0 < rs.length) || mayE ex 12) = v) := by
          show _ = _
          rw [← HQ.out, List.drop_of_length_le (by omega)]; rfl
        have x1 := (HK0.out.below BW.out HK0.out.lt).cell (i := 1) (by simp); have x2 := (HK0.out.below BW.out HK0.out.lt).cell (i := 2) (by simp); have x3 := (HK0.out.below BW.out HK0.out.lt).cell (i := 3) (by simp); have x4 := (HK0.out.below BW.out HK0.out.lt).cell (i := 4) (by simp); have x5 := (HK0.out.below BW.out HK0.out.lt).cell (i := 5) (by simp)
        simp only [List.getElem_cons_succ, List.getElem_cons_zero] at x1 x2 x3 x4 x5
        by_cases h0 : 0 < rs.length
        · have HQ3 : Hid (v = true) := by
            show _ = _
            rw [← HQ2.out, decide_eq_true h0]; rfl
          have hd : decide (0 < rs.length) = true := decide_eq_true h0
          go_wp2_with fail
          go_ret
          exact ⟨by rw [HQ3.out]; rfl, HB0.out.trans (BW.out.mono HB0.out.size)⟩
        · have HQ3 : Hid (v = mayE ex 12) := by
            show _ = _
            rw [← HQ2.out, decide_eq_false h0]; rfl
          have hd : decide (0 < rs.length) = false := decide_eq_false h0
          have hb := HB0.out.trans (BW.out.mono HB0.out.size)
          have HC := Lib.hid (mayExpr_any ex wr F _ 12 (HE.out.below hb) (by omega))
          clear hb
          go_wp2_with (go_at_call 84; refine HC.out.mono ?_; rintro e w2 ⟨rfl, hb2⟩)
          go_ret
          exact ⟨by rw [HQ3.out]; rfl, (HB0.out.trans (BW.out.mono HB0.out.size)).trans (hb2.mono (HB0.out.trans (BW.out.mono HB0.out.size)).size)⟩
set_option maxHeartbeats 2000000 in
theorem may_any (s : Sc) (W : World) (F : Nat → Prop) (A : Option Addr) (c : Nat) (hs : ScAt W F A s) (hl : s.length ≤ 9223372036854775807) :
    Calls Tryz.prog 36 #[.agg #[.slice A s.length c]] W fun r w' => r = .returned (.bool (mayS s)) ∧ Below W.heap.size W w' := by
  obtain ⟨v, hv⟩ : ∃ v, v = mayS s := ⟨_, rfl⟩
  rw [← hv]
  unfold mayS at hv
  obtain ⟨W1, hW⟩ : ∃ W1, W1 = W.alloc (.cells #[.slice A s.length c] 24) := ⟨_, rfl⟩
  have HK0 : Hid (Blk W1 W.heap.size [.slice A s.length c] 24) := by rw [hW]; exact Lib.hid (Blk.new W _ _)
  have HB0 : Hid (Below W.heap.size W W1) := by rw [hW]; exact Lib.hid ((Below.refl W.heap.size W).alloc (Nat.le_refl _) _)
  have HS : Hid (RowAt 2 TyAt W F A s) := Lib.hid hs
  have HW := Lib.hid hW
  have HV := Lib.hid hv
  clear hs hW hv
  go_enter Tryz.func36, Tryz.ntmps36
  go_wp2_with fail
  rw [← HW.out]
  go_loopw [3] (fun i wr => ∃ j : Nat, j ≤ s.length ∧ i = .int .i64 j ∧ Hid ((s.drop j).all mayT = v) ∧ Hid (Below W1.heap.size W1 wr)) (fun i _ => s.length - (intOf i).toNat)
  case atStart => exact ⟨0, by omega, rfl, Lib.hid HV.out.symm, Lib.hid (Below.refl _ _)⟩
  case round =>
    obtain ⟨j, hj, rfl, HQ, BW⟩ := hrel
    have x1 := (HK0.out.below BW.out HK0.out.lt).cell (i := 0) (by simp)
    simp only [List.getElem_cons_zero] at x1
    by_cases hlt : j < s.length
    · have HD := Lib.hid (all_drop (p := mayT) hlt)
      obtain ⟨b, off, B, d, rfl, ⟨hsn, hrl⟩, hr, hc⟩ := HS.out.ty hlt
      obtain ⟨z0, z1⟩ := hc wr (HB0.out.trans (BW.out.mono HB0.out.size))
      have HC1 := Lib.hid (fun w' hw => (hc w' hw).2)
      have HRL := Lib.hid hr
      have HM : Hid (mayT s[j] = (nameL s[j].name && s[j].rels.all mayR)) := Lib.hid rfl
      rw [HM.out] at HD
      generalize s[j].name = nx at *
      generalize s[j].rels = rx at *
      have HN := Lib.hid (fun W => refName_txt nx W hsn)
      obtain ⟨q, hq⟩ : ∃ q, nameL nx = q := ⟨_, rfl⟩
      rw [hq] at HN HD
      clear hc hr HM hq
      cases q
      · have HQ2 : Hid (v = false) := by show _ = _; rw [← HQ.out, HD.out]; rfl
        go_wp2_with (go_at_call 62; with_reducible refine (HN.out _).mono ?_; rintro e w2 ⟨rfl, rfl⟩)
        go_ret
        exact ⟨by rw [HQ2.out]; rfl, HB0.out.trans (BW.out.mono HB0.out.size)⟩
      · have HD2 : Hid ((rx.all mayR && (s.drop (j + 1)).all mayT) = v) := by show _ = _; rw [← HQ.out, HD.out]; rfl
        go_wp2_with (go_at_call 62; with_reducible refine (HN.out _).mono ?_; rintro e w2 ⟨rfl, rfl⟩)
        go_loopw [5] (fun i w3 => ∃ p : Nat, p ≤ rx.length ∧ i = .int .i64 p ∧ Hid (((rx.drop p).all mayR && (s.drop (j + 1)).all mayT) = v) ∧ Hid (Below wr.heap.size wr w3)) (fun i _ => rx.length - (intOf i).toNat)
        case atStart => exact ⟨0, by omega, rfl, Lib.hid HD2.out, Lib.hid (Below.refl _ _)⟩
        case round =>
          rename World => w3
          obtain ⟨p, hp, rfl, HP, BW2⟩ := hrel
          have hbw := BW.out.trans (BW2.out.mono BW.out.size)
          have HB3 := Lib.hid (HB0.out.trans (hbw.mono HB0.out.size))
          have x2 := (HK0.out.below hbw HK0.out.lt).cell (i := 0) (by simp)
          simp only [List.getElem_cons_zero] at x2
          have z2 := HC1.out w3 HB3.out
          have HBW := Lib.hid hbw
          clear hbw
          by_cases hpl : p < rx.length
          · have HE := Lib.hid (all_drop (p := mayR) hpl)
            obtain ⟨g, og, n1, B1, m1, c1, k1, p1, q1, E1, m2, c2, rfl, hE, hcells⟩ := HRL.out.rel hpl
            obtain ⟨a0, a1, a2, a3, a4, a5⟩ := hcells w3 HB3.out
            have HC := Lib.hid (mayRel_any rx[p] w3 F _ (hE.below HB3.out))
            obtain ⟨q, hq⟩ : ∃ q, mayR rx[p] = q := ⟨_, rfl⟩
            rw [hq] at HC HE
            clear hcells hE hq
            cases q
            · have HQ2 : Hid (v = false) := by show _ = _; rw [← HP.out, HE.out]; rfl
              go_wp2_with (go_at_call 63; refine HC.out.mono ?_; rintro e w4 ⟨rfl, hb4⟩)
              go_ret
              exact ⟨by rw [HQ2.out]; rfl, HB3.out.trans (hb4.mono HB3.out.size)⟩
            · have HQ2 : Hid (((rx.drop (p + 1)).all mayR && (s.drop (j + 1)).all mayT) = v) := by show _ = _; rw [← HP.out, HE.out]; rfl
              go_wp2_with (go_at_call 63; refine HC.out.mono ?_; rintro e w4 ⟨rfl, hb4⟩)
              go_roundw
              case rel => exact ⟨p + 1, by omega, by go_num, HQ2, Lib.hid (hop BW2.out hb4)⟩
              case measure => simp [intOf]; omega
          · have HQ2 : Hid ((s.drop (j + 1)).all mayT = v) := by
              show _ = _
              rw [← HP.out, List.drop_of_length_le (l := rx) (i := p) (by omega)]; rfl
            go_wp2_with fail
            go_roundw
            case rel => exact ⟨j + 1, by omega, by go_num, HQ2, HBW⟩
            case measure => simp [intOf]; omega
    · have HQ2 : Hid (v = true) := by
        show _ = _
        rw [← HQ.out, List.drop_of_length_le (by omega)]; rfl
      go_wp2_with fail
      go_ret
      exact ⟨by rw [HQ2.out]; rfl, HB0.out.trans (BW.out.mono HB0.out.size)⟩
end Go.Proofs.YtdnhbledndgbcaaGreat
namespace Go.Proofs.YtdnhbledndgbcaaGreat
open Go.RowKit
def atN {α : Type} (p : α → Bool) : List α → Nat → Int
  | [], _ => -1
  | x :: r, i => if p x then (i : Int) else atN p r (i + 1)
theorem atN_drop {α : Type} {p : α → Bool} {l : List α} {j : Nat} (h : j < l.length) : atN p (l.drop j) j = if p l[j] then (j : Int) else atN p (l.drop (j + 1)) (j + 1) := by
  rw [List.drop_eq_getElem_cons h, atN]
theorem atN_is {α : Type} (p : α → Bool) : ∀ (l : List α) (i : Nat), atN p l i = -1 ∨ ∃ j, j < l.length ∧ atN p l i = ((i + j : Nat) : Int)
  | [], _ => .inl rfl
  | x :: r, i => by
    rw [atN]
    by_cases h : p x = true
    · rw [if_pos h]; exact .inr ⟨0, by simp, by simp⟩
    · rw [if_neg h]
      rcases atN_is p r (i + 1) with h1 | ⟨j, h1, h2⟩
      · exact .inl h1
      · exact .inr ⟨j + 1, by simp; omega, by rw [h2]; congr 1; omega⟩
def typN (s : Sc) (n : Txt) : Int := atN (fun (t : Ty) => decide (t.name = n)) s 0
def relsN (rs : List Rl) (n : Txt) : Int := atN (fun (r : Rl) => decide (r.name = n)) rs 0
def ofT (s : Sc) (t : Int) : List Rl := if t < 0 then [] else ((s[t.toNat]?).map (·.rels)).getD []
def relN (s : Sc) (t : Int) (n : Txt) : Int := relsN (ofT s t) n
theorem typN_is (s : Sc) (n : Txt) : typN s n = -1 ∨ ∃ j, j < s.length ∧ typN s n = (j : Int) := by
  rcases atN_is (fun (t : Ty) => decide (t.name = n)) s 0 with h | ⟨j, h1, h2⟩
  · exact .inl h
  · exact .inr ⟨j, h1, by unfold typN; rw [h2, Nat.zero_add]⟩
theorem relsN_is (rs : List Rl) (n : Txt) : relsN rs n = -1 ∨ ∃ j, j < rs.length ∧ relsN rs n = (j : Int) := by
  rcases atN_is (fun (r : Rl) => decide (r.name = n)) rs 0 with h | ⟨j, h1, h2⟩
  · exact .inl h
  · exact .inr ⟨j, h1, by unfold relsN; rw [h2, Nat.zero_add]⟩
theorem ofT_at {s : Sc} {j : Nat} (h : j < s.length) : ofT s (j : Int) = s[j].rels := by
  unfold ofT
  rw [if_neg (by omega), Int.toNat_natCast, List.getElem?_eq_getElem h]; rfl
theorem ofT_neg {s : Sc} {t : Int} (h : t < 0) : ofT s t = [] := if_pos h
def noRel : Rl := ⟨[], [], .mk 0 [] [] []⟩
def relAt (s : Sc) (t k : Int) : Rl := ((ofT s t)[k.toNat]?).getD noRel
def findR (s : Sc) (t n : Txt) : Rl × Bool := let i := typN s t; let k := relN s i n; if k < 0 then (noRel, false) else (relAt s i k, true)
def leafN (s : Sc) (t : Nat) (k : Int) (n o : Txt) : Nat :=
  let i := relN s t n
  if i < 0 then 6 else if k = 0 then 0 else
    let refs := (relAt s t i).refs
    if refs.length = 0 then 10 else if refs.any (fun r => decide (r.2 = []) && decide (0 ≤ relN s (typN s r.1) o)) then 0 else 6
mutual
def chkE (s : Sc) (t : Nat) : Ex → Nat
  | .mk k n o ks => if chkL s t ks ≠ 0 then chkL s t ks else if 0 < ks.length then 0 else leafN s t k n o
def chkL (s : Sc) (t : Nat) : List Ex → Nat
  | [] => 0
  | x :: r => if chkE s t x ≠ 0 then chkE s t x else chkL s t r
end
def refN (s : Sc) (r : Rf) : Bool := decide (typN s r.1 < 0) || (decide (r.2 ≠ []) && decide (relN s (typN s r.1) r.2 < 0))
def namesN (s : Sc) (t : Nat) (x : Rl) : Nat := if x.refs.length = 0 then chkE s t x.expr else if x.refs.any (refN s) then 6 else 0
def firstN {α : Type} (p : Nat → α → Bool) : List α → Nat → Option Nat
  | [], _ => none
  | x :: r, i => if p i x then some i else firstN p r (i + 1)
abbrev Fa := Int × Int × Nat
def twiceR (rs : List Rl) : Option Nat := firstN (fun k r => decide (relsN rs r.name < k)) rs 0
def twiceTs (t : Nat) : Sc → Option Fa
  | [] => none
  | x :: r => match twiceR x.rels with | some k => some ((t : Int), (k : Int), 7) | none => twiceTs (t + 1) r
def badR (s : Sc) (t : Nat) : List Rl → Nat → Option Fa
  | [], _ => none
  | x :: r, k => if namesN s t x ≠ 0 then some ((t : Int), (k : Int), namesN s t x) else badR s t r (k + 1)
def badT (s : Sc) : Sc → Nat → Option Fa
  | [], _ => none
  | x :: r, t => match badR s t x.rels 0 with | some f => some f | none => badT s r (t + 1)
def plainN (s : Sc) : Fa :=
  if mayS s = false ∨ s.length = 0 then (0, -1, 1) else if 16 < s.length then (0, -1, 2) else
  match firstN (fun _ (x : Ty) => decide (16 < x.rels.length)) s 0 with
  | some t => ((t : Int), -1, 2)
  | none => match firstN (fun i (x : Ty) => decide (typN s x.name < i)) s 0 with
    | some t => ((t : Int), -1, 7)
    | none => match twiceTs 0 s with
      | some f => f
      | none => match badT s s 0 with
        | some f => f
        | none => (0, 0, 0)
end Go.Proofs.YtdnhbledndgbcaaGreat
namespace Go.Proofs.YtdnhbledndgbcaaGreat
open Go.RowKit
set_option maxRecDepth 100000 in
set_option maxHeartbeats 1000000 in
theorem rtyp_any (s : Sc) (n : Txt) (W : World) (F : Nat → Prop) (A : Option Addr) (c : Nat) (hs : ScAt W F A s) (hl : s.length ≤ 9223372036854775807) :
    Calls Tryz.prog 37 #[.agg #[.slice A s.length c], strV n] W fun r w' => r = .returned (.int .i64 (typN s n)) ∧ Below W.heap.size W w' := by
  obtain ⟨v, hv⟩ : ∃ v, v = typN s n := ⟨_, rfl⟩
  rw [← hv]
  unfold typN at hv
  obtain ⟨W1, hW⟩ : ∃ W1, W1 = W.alloc (.cells #[.slice A s.length c] 24) := ⟨_, rfl⟩
  have HK0 : Hid (Blk W1 W.heap.size [.slice A s.length c] 24) := by rw [hW]; exact Lib.hid (Blk.new W _ _)
  have HB0 : Hid (Below W.heap.size W W1) := by rw [hW]; exact Lib.hid ((Below.refl W.heap.size W).alloc (Nat.le_refl _) _)
  have HS : Hid (RowAt 2 TyAt W F A s) := Lib.hid hs
  have HW := Lib.hid hW
  have HV := Lib.hid hv
  clear hs hW hv
  go_enter Tryz.func37, Tryz.ntmps37
  go_wp2_with fail
  rw [← HW.out]
  go_loopw [5] (fun i wr => ∃ j : Nat, j ≤ s.length ∧ i = .int .i64 j ∧ Hid (v = atN (fun (t : Ty) => decide (t.name = n)) (s.drop j) j) ∧ Hid (Below W1.heap.size W1 wr)) (fun i _ => s.length - (intOf i).toNat)
  case atStart => exact ⟨0, by omega, rfl, HV, Lib.hid (Below.refl _ _)⟩
  case round =>
    obtain ⟨j, hj, rfl, H, BW⟩ := hrel
    have x1 := (HK0.out.below BW.out HK0.out.lt).cell (i := 0) (by simp)
    simp only [List.getElem_cons_zero] at x1
    by_cases hlt : j < s.length
    · have HD := Lib.hid (atN_drop (p := fun (t : Ty) => decide (t.name = n)) hlt)
      obtain ⟨b, off, B, d, rfl, _, _, hc⟩ := HS.out.ty hlt
      obtain ⟨z0, _⟩ := hc wr (HB0.out.trans (BW.out.mono HB0.out.size))
      clear hc
      generalize s[j].name = nx at *
      by_cases e : nx = n
      · have HN : Hid (v = (j : Int)) := Lib.hid (by rw [H.out, HD.out, if_pos (decide_eq_true e)])
        have hd : (nx == n) = true := beq_iff_eq.2 e
        clear e
        go_wp2_with fail
        go_ret
        exact ⟨by rw [HN.out]; rfl, HB0.out.trans (BW.out.mono HB0.out.size)⟩
      · have HN : Hid (v = atN (fun (t : Ty) => decide (t.name = n)) (s.drop (j + 1)) (j + 1)) := Lib.hid (by rw [H.out, HD.out, if_neg (by rw [decide_eq_false e]; decide)])
        have hd : (nx == n) = false := beq_eq_false_iff_ne.2 e
        clear e
        go_wp2_with fail
        go_roundw
        case rel => exact ⟨j + 1, by omega, by go_num, HN, BW⟩
        case measure => simp [intOf]; omega
    · have HN : Hid (v = -1) := Lib.hid (by rw [H.out, List.drop_of_length_le (by omega)]; rfl)
      go_wp2_with fail
      go_ret
      exact ⟨by rw [HN.out]; rfl, HB0.out.trans (BW.out.mono HB0.out.size)⟩
def TyNo (s : Sc) (t : Int) : Prop := (-9223372036854775808 ≤ t ∧ t < 0) ∨ ∃ j, j < s.length ∧ t = (j : Int)
theorem typN_no (s : Sc) (n : Txt) : TyNo s (typN s n) := (typN_is s n).imp (fun h => by omega) (fun h => h)
set_option maxRecDepth 100000 in
set_option maxHeartbeats 1000000 in
theorem rrel_any (s : Sc) (t : Int) (n : Txt) (W : World) (F : Nat → Prop) (A : Option Addr) (c : Nat) (hs : ScAt W F A s) (_ : s.length ≤ 9223372036854775807) (ht : TyNo s t) :
    Calls Tryz.prog 38 #[.agg #[.slice A s.length c], .int .i64 t, strV n] W fun r w' => r = .returned (.int .i64 (relN s t n)) ∧ Below W.heap.size W w' := by
  obtain ⟨v, hv⟩ : ∃ v, v = relN s t n := ⟨_, rfl⟩
  rw [← hv]
  unfold relN at hv
  obtain ⟨W1, hW⟩ : ∃ W1, W1 = W.alloc (.cells #[.slice A s.length c] 24) := ⟨_, rfl⟩
  have HK0 : Hid (Blk W1 W.heap.size [.slice A s.length c] 24) := by rw [hW]; exact Lib.hid (Blk.new W _ _)
  have HB0 : Hid (Below W.heap.size W W1) := by rw [hW]; exact Lib.hid ((Below.refl W.heap.size W).alloc (Nat.le_refl _) _)
  have HS : Hid (RowAt 2 TyAt W F A s) := Lib.hid hs
  have HW := Lib.hid hW
  rcases ht with ⟨h0, h1⟩ | ⟨y, hy, rfl⟩
  · rw [ofT_neg h1] at hv
    have HV : Hid (v = -1) := Lib.hid hv
    clear hs hW hv
    go_enter Tryz.func38, Tryz.ntmps38
    go_wp2_with fail
    go_ret
    exact ⟨by rw [HV.out]; rfl, by rw [← HW.out]; exact HB0.out⟩
  rw [ofT_at hy] at hv
  unfold relsN at hv
  have HV := Lib.hid hv
  obtain ⟨b, off, B, d, rfl, ⟨_, hrl⟩, hr, hc⟩ := HS.out.ty hy
  have HC := Lib.hid (fun w hw => (hc w hw).2)
  have HR := Lib.hid hr
  have hnn : ¬ ((y : Int) < 0) := by omega
  generalize s[y].rels = rs at *
  clear hs hW hv hc hr
  go_enter Tryz.func38, Tryz.ntmps38
  go_wp2_with fail
  rw [← HW.out]
  go_loopw [7] (fun i wr => ∃ j : Nat, j ≤ rs.length ∧ i = .int .i64 j ∧ Hid (v = atN (fun (r : Rl) => decide (r.name = n)) (rs.drop j) j) ∧ Hid (Below W1.heap.size W1 wr)) (fun i _ => rs.length - (intOf i).toNat)
  case atStart => exact ⟨0, by omega, rfl, HV, Lib.hid (Below.refl _ _)⟩
  case round =>
    obtain ⟨j, hj, rfl, H, BW⟩ := hrel
    have x1 := (HK0.out.below BW.out HK0.out.lt).cell (i := 0) (by simp)
    simp only [List.getElem_cons_zero] at x1
    have hbw := HB0.out.trans (BW.out.mono HB0.out.size)
    have z1 := HC.out wr hbw
    by_cases hlt : j < rs.length
    · have HD := Lib.hid (atN_drop (p := fun (r : Rl) => decide (r.name = n)) hlt)
      obtain ⟨g, og, B1, c1, k1, p1, p2, E1, m2, c2, rfl, _, _, _, hcells⟩ := HR.out.rl hlt
      obtain ⟨a0, _⟩ := hcells wr hbw
      have HBW := Lib.hid hbw
      clear hcells hbw
      generalize rs[j].name = nx at *
      by_cases e : nx = n
      · have HN : Hid (v = (j : Int)) := Lib.hid (by rw [H.out, HD.out, if_pos (decide_eq_true e)])
        have hd : (nx == n) = true := beq_iff_eq.2 e
        clear e
        go_wp2_with fail
        go_ret
        exact ⟨by rw [HN.out]; rfl, HBW.out⟩
      · have HN : Hid (v = atN (fun (r : Rl) => decide (r.name = n)) (rs.drop (j + 1)) (j + 1)) := Lib.hid (by rw [H.out, HD.out, if_neg (by rw [decide_eq_false e]; decide)])
        have hd : (nx == n) = false := beq_eq_false_iff_ne.2 e
        clear e
        go_wp2_with fail
        go_roundw
        case rel => exact ⟨j + 1, by omega, by go_num, HN, BW⟩
        case measure => simp [intOf]; omega
    · have HN : Hid (v = -1) := Lib.hid (by rw [H.out, List.drop_of_length_le (by omega)]; rfl)
      have HBW := Lib.hid hbw
      clear hbw
      go_wp2_with fail
      go_ret
      exact ⟨by rw [HN.out]; rfl, HBW.out⟩
end Go.Proofs.YtdnhbledndgbcaaGreat
