/-
  Are two expressions the same (conciergelaw11's Exprs)? Condition: both are there.
  Are two relations the same (conciergelaw11's rels)? Condition: both are there.
  Are two schemas the same (conciergelaw11's Schemas)? Condition: both are there.
-/
import Derived.Test.YtpiaiibobjlipaaCLaW
import Derived.Deep.RegionHeldLaw
import Derived.Deep.QuietTactic
import Derived.BigQuiet
namespace Go.Proofs.Ytpiaiibobjlipaa
open Go.RowKit

mutual
def eqE : Ex → Ex → Bool
  | .mk k n o ks, .mk k' n' o' ks' => if k = k' ∧ ks.length = ks'.length then (if ks.length = 0 then n == n' && (k == 0 || o == o') else eqL ks ks') else false
def eqL : List Ex → List Ex → Bool
  | x :: xs, y :: ys => eqE x y && eqL xs ys
  | _, _ => true
end
theorem eqL_drop {xs ys : List Ex} {j : Nat} (h1 : j < xs.length) (h2 : j < ys.length) : eqL (xs.drop j) (ys.drop j) = (eqE xs[j] ys[j] && eqL (xs.drop (j + 1)) (ys.drop (j + 1))) := by
  rw [List.drop_eq_getElem_cons h1, List.drop_eq_getElem_cons h2, eqL]
set_option maxHeartbeats 2000000 in
theorem exprs_any : ∀ (e e' : Ex) (W : World) (F F' : Nat → Prop) (cs cs' : List Value), ExAt W F e cs → ExAt W F' e' cs' →
    Calls Try.prog 55 #[.agg cs.toArray, .agg cs'.toArray] W fun r w' => r = .returned (.bool (eqE e e')) ∧ Below W.heap.size W w' := by
  intro e
  refine Ex.all (P := fun e => ∀ (e' : Ex) (W : World) (F F' : Nat → Prop) (cs cs' : List Value), ExAt W F e cs → ExAt W F' e' cs' →
    Calls Try.prog 55 #[.agg cs.toArray, .agg cs'.toArray] W fun r w' => r = .returned (.bool (eqE e e')) ∧ Below W.heap.size W w') (fun k n o ks ih e' W F F' cs cs' hE hE' => ?_) e
  obtain ⟨k', n', o', ks'⟩ := e'
  obtain ⟨A, c, rfl, ⟨⟨k1, k2⟩, _, _, hl⟩, hr⟩ := hE.row
  obtain ⟨A', c', rfl, ⟨⟨k3, k4⟩, _, _, hl'⟩, hr'⟩ := hE'.row
  show Calls _ _ #[.agg #[.int .i64 k, strV n, strV o, .slice A ks.length c], .agg #[.int .i64 k', strV n', strV o', .slice A' ks'.length c']] _ _
  obtain ⟨W1, hW⟩ : ∃ W1, W1 = (W.alloc (.cells #[.int .i64 k, strV n, strV o, .slice A ks.length c] 35)).alloc (.cells #[.int .i64 k', strV n', strV o', .slice A' ks'.length c'] 35) := ⟨_, rfl⟩
  have HK0 : Hid (Blk W1 W.heap.size [.int .i64 k, strV n, strV o, .slice A ks.length c] 35) := by rw [hW]; exact Lib.hid ((Blk.new W [.int .i64 k, strV n, strV o, .slice A ks.length c] _).alloc _)
  have HK1 : Hid (Blk W1 (W.heap.size + 1) [.int .i64 k', strV n', strV o', .slice A' ks'.length c'] 35) := by
    have h := Blk.new (W.alloc (.cells #[.int .i64 k, strV n, strV o, .slice A ks.length c] 35)) [.int .i64 k', strV n', strV o', .slice A' ks'.length c'] 35
    rw [hW]
    exact Lib.hid (by simpa using h)
  have HB0 : Hid (Below W.heap.size W W1) := by rw [hW]; exact Lib.hid (((Below.refl W.heap.size W).alloc (Nat.le_refl _) _).alloc (by simp) _)
  have HR := Lib.hid hr
  have HR' := Lib.hid hr'
  have HI := Lib.hid ih
  have HW := Lib.hid hW
  clear ih hr hr' hE hE' hW
  obtain ⟨v, hv⟩ : ∃ v, v = eqE (.mk k n o ks) (.mk k' n' o' ks') := ⟨_, rfl⟩
  rw [← hv]
  unfold eqE at hv
  by_cases h1 : k = k'
  case neg =>
    rw [if_neg (fun h => h1 h.1)] at hv
    have hd : (k != k') = true := bne_iff_ne.2 h1
    subst hv
    go_enter Try.func55, Try.ntmps55
    go_wp2_with fail
    go_ret
    exact ⟨rfl, by rw [← HW.out]; exact HB0.out⟩
  case pos =>
    subst h1
    obtain ⟨m, hm⟩ : ∃ m, m = ks.length := ⟨_, rfl⟩
    obtain ⟨m', hm'⟩ : ∃ m', m' = ks'.length := ⟨_, rfl⟩
    by_cases h2 : ks.length = ks'.length
    case neg =>
      rw [if_neg (fun h => h2 h.2)] at hv
      have hd : ((ks.length : Int) != (ks'.length : Int)) = true := bne_iff_ne.2 (by omega)
      subst hv
      go_enter Try.func55, Try.ntmps55
      go_wp2_with fail
      go_ret
      exact ⟨rfl, by rw [← HW.out]; exact HB0.out⟩
    case pos =>
      rw [if_pos ⟨rfl, h2⟩] at hv
      rw [← h2] at HK1 HW ⊢
      by_cases h0 : ks.length = 0
      case pos =>
        rw [if_pos h0] at hv
        rw [h0] at HK0 HK1 HW ⊢
        have HV := Lib.hid hv
        clear hv h0 h2 hl hl'
        obtain ⟨q, hq⟩ : ∃ q, (n == n') = q := ⟨_, rfl⟩
        obtain ⟨r, hr⟩ : ∃ r, (k == 0) = r := ⟨_, rfl⟩
        obtain ⟨s, hs⟩ : ∃ s, (o == o') = s := ⟨_, rfl⟩
        rw [hq, hr, hs] at HV
        cases q
        · go_enter Try.func55, Try.ntmps55
          go_wp2_with fail
          go_ret
          exact ⟨by rw [HV.out]; rfl, by rw [← HW.out]; exact HB0.out⟩
        · cases r
          · go_enter Try.func55, Try.ntmps55
            go_wp2_with fail
            go_ret
            exact ⟨by rw [HV.out]; simp, by rw [← HW.out]; exact HB0.out⟩
          · go_enter Try.func55, Try.ntmps55
            go_wp2_with fail
            go_ret
            exact ⟨by rw [HV.out]; rfl, by rw [← HW.out]; exact HB0.out⟩
      case neg =>
        rw [if_neg h0] at hv
        have HV := Lib.hid hv
        have HL := Lib.hid h2
        have hd : ((ks.length : Int) == 0) = false := beq_eq_false_iff_ne.2 (by omega)
        clear hv h2
        go_enter Try.func55, Try.ntmps55
        go_wp2_with fail
        rw [← HW.out]
        go_loopw [5] (fun i wr => ∃ j : Nat, j ≤ ks.length ∧ i = .int .i64 j ∧ Hid (eqL (ks.drop j) (ks'.drop j) = v) ∧ Hid (Below W1.heap.size W1 wr)) (fun i _ => ks.length - (intOf i).toNat)
        case atStart => exact ⟨0, by omega, rfl, Lib.hid HV.out.symm, Lib.hid (Below.refl _ _)⟩
        case round =>
          obtain ⟨j, hj, rfl, HQ, BW⟩ := hrel
          have x3 := (HK0.out.below BW.out HK0.out.lt).cell (i := 3) (by simp)
          have y3 := (HK1.out.below BW.out HK1.out.lt).cell (i := 3) (by simp)
          simp only [List.getElem_cons_succ, List.getElem_cons_zero] at x3 y3
          by_cases hlt : j < ks.length
          · have hlt' : j < ks'.length := by rw [← HL.out]; exact hlt
            have HD := Lib.hid (eqL_drop hlt hlt')
            obtain ⟨b, off, k1', n1, o1, A1, m1, c1, rfl, hE, hcells⟩ := HR.out.kid hlt
            obtain ⟨b', off', k2', n2, o2, A2, m2, c2, rfl, hE', hcells'⟩ := HR'.out.kid hlt'
            have hW1 : ∀ w', Below W1.heap.size W1 w' → (w'.cell? ⟨W.heap.size, 3, none⟩ = some (.slice (some ⟨b, off, none⟩) ks.length c) ∧ w'.cell? ⟨W.heap.size + 1, 3, none⟩ = some (.slice (some ⟨b', off', none⟩) ks.length c')) ∧
                (w'.cell? ⟨b, off + j * 4, none⟩ = some (.int .i64 k1') ∧ w'.cell? ⟨b, off + j * 4 + 1, none⟩ = some (strV n1) ∧ w'.cell? ⟨b, off + j * 4 + 2, none⟩ = some (strV o1) ∧ w'.cell? ⟨b, off + j * 4 + 3, none⟩ = some (.slice A1 m1 c1)) ∧ (w'.cell? ⟨b', off' + j * 4, none⟩ = some (.int .i64 k2') ∧ w'.cell? ⟨b', off' + j * 4 + 1, none⟩ = some (strV n2) ∧ w'.cell? ⟨b', off' + j * 4 + 2, none⟩ = some (strV o2) ∧ w'.cell? ⟨b', off' + j * 4 + 3, none⟩ = some (.slice A2 m2 c2)) := fun w' hw => by
              have hb := HB0.out.trans (hw.mono HB0.out.size)
              exact ⟨⟨(HK0.out.below hw HK0.out.lt).cell (i := 3) (by simp), (HK1.out.below hw HK1.out.lt).cell (i := 3) (by simp)⟩, hcells w' hb, hcells' w' hb⟩
            have HS := Lib.hid hW1
            have hS0 := hW1 _ BW.out.drew
            have HC := Lib.hid (HI.out ks[j] (List.getElem_mem hlt) ks'[j] wr.drew F F' _ _ (hE.below (HB0.out.trans (BW.out.drew.mono HB0.out.size))) (hE'.below (HB0.out.trans (BW.out.drew.mono HB0.out.size))))
            obtain ⟨q, hq⟩ : ∃ q, eqE ks[j] ks'[j] = q := ⟨_, rfl⟩
            rw [hq] at HC HD
            clear hW1 hE hE' hcells hcells' hq
            cases q
            · have HQ2 : Hid (v = false) := by
                show _ = _
                rw [← HQ.out, HD.out]; rfl
              go_wp2_with fail
              go_region_held_law (fun w' => (w'.cell? ⟨W.heap.size, 3, none⟩ = some (.slice (some ⟨b, off, none⟩) ks.length c) ∧ w'.cell? ⟨W.heap.size + 1, 3, none⟩ = some (.slice (some ⟨b', off', none⟩) ks.length c')) ∧
                  (w'.cell? ⟨b, off + j * 4, none⟩ = some (.int .i64 k1') ∧ w'.cell? ⟨b, off + j * 4 + 1, none⟩ = some (strV n1) ∧ w'.cell? ⟨b, off + j * 4 + 2, none⟩ = some (strV o1) ∧ w'.cell? ⟨b, off + j * 4 + 3, none⟩ = some (.slice A1 m1 c1)) ∧ (w'.cell? ⟨b', off' + j * 4, none⟩ = some (.int .i64 k2') ∧ w'.cell? ⟨b', off' + j * 4 + 1, none⟩ = some (strV n2) ∧ w'.cell? ⟨b', off' + j * 4 + 2, none⟩ = some (strV o2) ∧ w'.cell? ⟨b', off' + j * 4 + 3, none⟩ = some (.slice A2 m2 c2)))
                (with_reducible assumption)
                (first
                  | (go_at_call 55; refine HC.out.mono ?_; rintro e w2 ⟨rfl, hb2⟩; have HB2 := Lib.hid (BW.out.drew.trans (hb2.mono BW.out.drew.size)); have hS2 := HS.out _ HB2.out; clear hb2))
              go_wp2_with fail
              go_ret
              exact ⟨by rw [HQ2.out]; rfl, HB0.out.trans (HB2.out.mono HB0.out.size)⟩
            · have HQ2 : Hid (eqL (ks.drop (j + 1)) (ks'.drop (j + 1)) = v) := by
                show _ = _
                rw [← HQ.out, HD.out]; rfl
              go_wp2_with fail
              go_region_held_law (fun w' => (w'.cell? ⟨W.heap.size, 3, none⟩ = some (.slice (some ⟨b, off, none⟩) ks.length c) ∧ w'.cell? ⟨W.heap.size + 1, 3, none⟩ = some (.slice (some ⟨b', off', none⟩) ks.length c')) ∧
                  (w'.cell? ⟨b, off + j * 4, none⟩ = some (.int .i64 k1') ∧ w'.cell? ⟨b, off + j * 4 + 1, none⟩ = some (strV n1) ∧ w'.cell? ⟨b, off + j * 4 + 2, none⟩ = some (strV o1) ∧ w'.cell? ⟨b, off + j * 4 + 3, none⟩ = some (.slice A1 m1 c1)) ∧ (w'.cell? ⟨b', off' + j * 4, none⟩ = some (.int .i64 k2') ∧ w'.cell? ⟨b', off' + j * 4 + 1, none⟩ = some (strV n2) ∧ w'.cell? ⟨b', off' + j * 4 + 2, none⟩ = some (strV o2) ∧ w'.cell? ⟨b', off' + j * 4 + 3, none⟩ = some (.slice A2 m2 c2)))
                (with_reducible assumption)
                (first
                  | (go_at_call 55; refine HC.out.mono ?_; rintro e w2 ⟨rfl, hb2⟩; have HB2 := Lib.hid (BW.out.drew.trans (hb2.mono BW.out.drew.size)); have hS2 := HS.out _ HB2.out; clear hb2))
              go_wp2_with fail
              go_roundw
              case rel => exact ⟨j + 1, by omega, by go_num, HQ2, HB2⟩
              case measure => simp [intOf]; omega
          · have HQ2 : Hid (v = true) := by
              show _ = _
              rw [← HQ.out, List.drop_of_length_le (by omega), eqL]
              intro _ _ _ _ h; cases h
            go_wp2_with fail
            go_ret
            exact ⟨by rw [HQ2.out]; rfl, HB0.out.trans (BW.out.mono HB0.out.size)⟩
end Go.Proofs.Ytpiaiibobjlipaa
namespace Go.Proofs.Ytpiaiibobjlipaa
open Go.RowKit
theorem RowAt.pair {W : World} {F : Nat → Prop} {A : Option Addr} {ks : List Rf} (h : RowAt 2 RfAt W F A ks) {j : Nat} (hj : j < ks.length) :
    ∃ b off, A = some ⟨b, off, none⟩ ∧ ∀ W', Below W.heap.size W W' → W'.cell? ⟨b, off + j * 2, none⟩ = some (strV ks[j].1) ∧ W'.cell? ⟨b, off + j * 2 + 1, none⟩ = some (strV ks[j].2) := by
  rcases h with rfl | ⟨b, off, rfl, hb, _, hk⟩
  · simp at hj
  · obtain ⟨cs, ⟨rfl, _, _⟩, h2⟩ := hk j hj
    refine ⟨b, off, rfl, fun W' hW => ?_⟩
    have hc : ∀ i, i < 2 → W'.cell? ⟨b, off + j * 2 + i, none⟩ = [strV ks[j].1, strV ks[j].2][i]? := fun i hi => (hW.cell (p := ⟨b, off + j * 2 + i, none⟩) hb).trans (h2 i hi)
    exact ⟨hc 0 (by decide), hc 1 (by decide)⟩
def eqR (a b : Rl) : Bool := if a.name = b.name ∧ a.refs.length = b.refs.length then (a.refs == b.refs) && (decide (0 < a.refs.length) || eqE a.expr b.expr) else false
theorem rfs_drop {xs ys : List Rf} {j : Nat} (h1 : j < xs.length) (h2 : j < ys.length) : (xs.drop j == ys.drop j) = (xs[j] == ys[j] && (xs.drop (j + 1) == ys.drop (j + 1))) := by
  rw [List.drop_eq_getElem_cons h1, List.drop_eq_getElem_cons h2]; rfl
theorem RlAt.six {W : World} {F : Nat → Prop} {x : Rl} {cs : List Value} (h : RlAt W F x cs) : ∃ A c k n o A' m c', cs = [strV x.name, .slice A x.refs.length c, .int .i64 k, strV n, strV o, .slice A' m c'] ∧ (small x.name ∧ x.refs.length ≤ 9223372036854775807) ∧ RowAt 2 RfAt W F A x.refs ∧
    ExAt W F x.expr [.int .i64 k, strV n, strV o, .slice A' m c'] := by
  obtain ⟨A, c, es, rfl, h2, h3, h4⟩ := h
  rcases he : x.expr with ⟨k, n, o, ks⟩
  rw [he] at h4
  obtain ⟨A', c', rfl, _, _⟩ := h4.row
  exact ⟨A, c, k, n, o, A', ks.length, c', rfl, h2, h3, h4⟩
set_option maxHeartbeats 2000000 in
theorem rels_any (x y : Rl) (W : World) (F F' : Nat → Prop) (cs cs' : List Value) (hx : RlAt W F x cs) (hy : RlAt W F' y cs') :
    Calls Try.prog 31 #[.agg cs.toArray, .agg cs'.toArray] W fun r w' => r = .returned (.bool (eqR x y)) ∧ Below W.heap.size W w' := by
  obtain ⟨A, c, k, n, o, E, m, d, rfl, ⟨_, hl⟩, hr, he⟩ := hx.six
  obtain ⟨A', c', k', n', o', E', m', d', rfl, ⟨_, hl'⟩, hr', he'⟩ := hy.six
  obtain ⟨v, hv⟩ : ∃ v, v = eqR x y := ⟨_, rfl⟩
  rw [← hv]
  unfold eqR at hv
  obtain ⟨a, rs, ex⟩ := x
  obtain ⟨a', rs', ex'⟩ := y
  dsimp only at *
  show Calls _ _ #[.agg #[strV a, .slice A rs.length c, .int .i64 k, strV n, strV o, .slice E m d], .agg #[strV a', .slice A' rs'.length c', .int .i64 k', strV n', strV o', .slice E' m' d']] _ _
  obtain ⟨W1, hW⟩ : ∃ W1, W1 = (W.alloc (.cells #[strV a, .slice A rs.length c, .int .i64 k, strV n, strV o, .slice E m d] 48)).alloc (.cells #[strV a', .slice A' rs'.length c', .int .i64 k', strV n', strV o', .slice E' m' d'] 48) := ⟨_, rfl⟩
  have HK0 : Hid (Blk W1 W.heap.size [strV a, .slice A rs.length c, .int .i64 k, strV n, strV o, .slice E m d] 48) := by rw [hW]; exact Lib.hid ((Blk.new W [strV a, .slice A rs.length c, .int .i64 k, strV n, strV o, .slice E m d] _).alloc _)
  have HK1 : Hid (Blk W1 (W.heap.size + 1) [strV a', .slice A' rs'.length c', .int .i64 k', strV n', strV o', .slice E' m' d'] 48) := by
    have h := Blk.new (W.alloc (.cells #[strV a, .slice A rs.length c, .int .i64 k, strV n, strV o, .slice E m d] 48)) [strV a', .slice A' rs'.length c', .int .i64 k', strV n', strV o', .slice E' m' d'] 48
    rw [hW]
    exact Lib.hid (by simpa using h)
  have HB0 : Hid (Below W.heap.size W W1) := by rw [hW]; exact Lib.hid (((Below.refl W.heap.size W).alloc (Nat.le_refl _) _).alloc (by simp) _)
  have HR := Lib.hid hr
  have HR' := Lib.hid hr'
  have HE := Lib.hid he
  have HE' := Lib.hid he'
  have HW := Lib.hid hW
  clear hr hr' he he' hx hy hW
  by_cases h1 : a = a'
  case neg =>
    rw [if_neg (fun h => h1 h.1)] at hv
    have hd : (a == a') = false := beq_eq_false_iff_ne.2 h1
    subst hv
    go_enter Try.func31, Try.ntmps31
    go_wp2_with fail
    go_ret
    exact ⟨rfl, by rw [← HW.out]; exact HB0.out⟩
  case pos =>
    by_cases h2 : rs.length = rs'.length
    case neg =>
      rw [if_neg (fun h => h2 h.2)] at hv
      have hd : ((rs.length : Int) != (rs'.length : Int)) = true := bne_iff_ne.2 (by omega)
      subst hv
      have hn : (a == a') = true := beq_iff_eq.2 h1
      clear h1
      go_enter Try.func31, Try.ntmps31
      go_wp2_with fail
      go_ret
      exact ⟨rfl, by rw [← HW.out]; exact HB0.out⟩
    case pos =>
      rw [if_pos ⟨h1, h2⟩] at hv
      have HV := Lib.hid hv
      have HL := Lib.hid h2
      have hn : (a == a') = true := beq_iff_eq.2 h1
      rw [← h2] at HK1 HW ⊢
      clear h1 hv h2
      go_enter Try.func31, Try.ntmps31
      go_wp2_with fail
      rw [← HW.out]
      go_loopw [5] (fun i wr => ∃ j : Nat, j ≤ rs.length ∧ i = .int .i64 j ∧ Hid (((rs.drop j == rs'.drop j) && (decide (0 < rs.length) || eqE ex ex')) = v) ∧ Hid (Below W1.heap.size W1 wr)) (fun i _ => rs.length - (intOf i).toNat)
      case atStart => exact ⟨0, by omega, rfl, Lib.hid HV.out.symm, Lib.hid (Below.refl _ _)⟩
      case round =>
        obtain ⟨j, hj, rfl, HQ, BW⟩ := hrel
        by_cases hlt : j < rs.length
        · have hlt' : j < rs'.length := by rw [← HL.out]; exact hlt
          have HD := Lib.hid (rfs_drop hlt hlt')
          have x1 := (HK0.out.below BW.out HK0.out.lt).cell (i := 1) (by simp)
          have y1 := (HK1.out.below BW.out HK1.out.lt).cell (i := 1) (by simp)
          simp only [List.getElem_cons_succ, List.getElem_cons_zero] at x1 y1
          obtain ⟨b, off, rfl, hc⟩ := HR.out.pair hlt
          obtain ⟨b', off', rfl, hc'⟩ := HR'.out.pair hlt'
          obtain ⟨z0, z1⟩ := hc wr (HB0.out.trans (BW.out.mono HB0.out.size))
          obtain ⟨u0, u1⟩ := hc' wr (HB0.out.trans (BW.out.mono HB0.out.size))
          have HDE : Hid ((rs[j] == rs'[j]) = (rs[j].1 == rs'[j].1 && rs[j].2 == rs'[j].2)) := Lib.hid rfl
          rw [HDE.out] at HD
          generalize rs[j].1 = p1 at *
          generalize rs[j].2 = p2 at *
          generalize rs'[j].1 = q1 at *
          generalize rs'[j].2 = q2 at *
          clear hc hc' HDE
          have h3 : (¬ p1 = q1 ∨ (p1 = q1 ∧ ¬ p2 = q2)) ∨ (p1 = q1 ∧ p2 = q2) := by
            by_cases e1 : p1 = q1
            · by_cases e2 : p2 = q2
              · exact .inr ⟨e1, e2⟩
              · exact .inl (.inr ⟨e1, e2⟩)
            · exact .inl (.inl e1)
          rcases h3 with h3 | ⟨e1, e2⟩
          · have HQ2 : Hid (v = false) := by
              show _ = _
              rw [← HQ.out, HD.out]
              rcases h3 with h3 | ⟨_, h3⟩
              · rw [beq_eq_false_iff_ne.2 h3]; rfl
              · rw [beq_eq_false_iff_ne.2 h3]; simp
            rcases h3 with h3 | ⟨rfl, h3⟩
            all_goals go_wp2_with fail
            all_goals go_quiet (fail)
            all_goals go_wp2_with fail
            all_goals go_ret
            all_goals exact ⟨by rw [HQ2.out]; rfl, below_drewN (HB0.out.trans (BW.out.mono HB0.out.size)) _⟩
          · subst e1 e2
            have HQ2 : Hid (((rs.drop (j + 1) == rs'.drop (j + 1)) && (decide (0 < rs.length) || eqE ex ex')) = v) := by
              show _ = _
              rw [← HQ.out, HD.out]; simp
            go_wp2_with fail
            go_quiet (fail)
            go_wp2_with fail
            go_roundw
            case rel => exact ⟨j + 1, by omega, by go_num, HQ2, Lib.hid (below_drewN BW.out _)⟩
            case measure => simp [intOf]; omega
        · have HQ2 : Hid ((decide (0 < rs.length) || eqE ex ex') = v) := by
            show _ = _
            rw [← HQ.out, List.drop_of_length_le (by omega), List.drop_of_length_le (by rw [← HL.out]; omega)]; rfl
          have x1 := (HK0.out.below BW.out HK0.out.lt).cell (i := 1) (by simp); have x2 := (HK0.out.below BW.out HK0.out.lt).cell (i := 2) (by simp); have x3 := (HK0.out.below BW.out HK0.out.lt).cell (i := 3) (by simp); have x4 := (HK0.out.below BW.out HK0.out.lt).cell (i := 4) (by simp); have x5 := (HK0.out.below BW.out HK0.out.lt).cell (i := 5) (by simp)
          have y2 := (HK1.out.below BW.out HK1.out.lt).cell (i := 2) (by simp); have y3 := (HK1.out.below BW.out HK1.out.lt).cell (i := 3) (by simp); have y4 := (HK1.out.below BW.out HK1.out.lt).cell (i := 4) (by simp); have y5 := (HK1.out.below BW.out HK1.out.lt).cell (i := 5) (by simp)
          simp only [List.getElem_cons_succ, List.getElem_cons_zero] at x1 x2 x3 x4 x5 y2 y3 y4 y5
          by_cases h0 : 0 < rs.length
          · have HQ3 : Hid (v = true) := by
              show _ = _
              rw [← HQ2.out, decide_eq_true h0]; rfl
            have hd : decide (0 < rs.length) = true := decide_eq_true h0
            go_wp2_with fail
            go_ret
            exact ⟨by rw [HQ3.out]; rfl, HB0.out.trans (BW.out.mono HB0.out.size)⟩
          · have HQ3 : Hid (v = eqE ex ex') := by
              show _ = _
              rw [← HQ2.out, decide_eq_false h0]; rfl
            have hd : decide (0 < rs.length) = false := decide_eq_false h0
            have hb := HB0.out.trans (BW.out.mono HB0.out.size)
            have HC := Lib.hid (exprs_any ex ex' wr F F' _ _ (HE.out.below hb) (HE'.out.below hb))
            clear hb
            go_wp2_with (go_at_call 55; refine HC.out.mono ?_; rintro e w2 ⟨rfl, hb2⟩)
            go_ret
            exact ⟨by rw [HQ3.out]; rfl, (HB0.out.trans (BW.out.mono HB0.out.size)).trans (hb2.mono (HB0.out.trans (BW.out.mono HB0.out.size)).size)⟩
end Go.Proofs.Ytpiaiibobjlipaa
namespace Go.Proofs.Ytpiaiibobjlipaa
open Go.RowKit
def RlSix (W : World) (b o : Nat) (n : Txt) (A : Option Addr) (m c : Nat) (k : Int) (p q : Txt) (E : Option Addr) (m' c' : Nat) : Prop :=
  W.cell? ⟨b, o, none⟩ = some (strV n) ∧ W.cell? ⟨b, o + 1, none⟩ = some (.slice A m c) ∧ W.cell? ⟨b, o + 2, none⟩ = some (.int .i64 k) ∧ W.cell? ⟨b, o + 3, none⟩ = some (strV p) ∧ W.cell? ⟨b, o + 4, none⟩ = some (strV q) ∧ W.cell? ⟨b, o + 5, none⟩ = some (.slice E m' c')
theorem RowAt.rel {W : World} {F : Nat → Prop} {A : Option Addr} {ks : List Rl} (h : RowAt 6 RlAt W F A ks) {j : Nat} (hj : j < ks.length) :
    ∃ b off n A' m c k p q E m' c', A = some ⟨b, off, none⟩ ∧ RlAt W F ks[j] [strV n, .slice A' m c, .int .i64 k, strV p, strV q, .slice E m' c'] ∧ ∀ W', Below W.heap.size W W' → RlSix W' b (off + j * 6) n A' m c k p q E m' c' := by
  rcases h with rfl | ⟨b, off, rfl, hb, _, hk⟩
  · simp at hj
  · obtain ⟨cs, h1, h2⟩ := hk j hj
    obtain ⟨A', c, k, n, o, E, m, d, rfl, _, _, _⟩ := h1.six
    refine ⟨b, off, _, A', _, c, k, n, o, E, m, d, rfl, h1, fun W' hW => ?_⟩
    have hc : ∀ i, i < 6 → W'.cell? ⟨b, off + j * 6 + i, none⟩ = [strV ks[j].name, .slice A' ks[j].refs.length c, .int .i64 k, strV n, strV o, .slice E m d][i]? := fun i hi => (hW.cell (p := ⟨b, off + j * 6 + i, none⟩) hb).trans (h2 i hi)
    exact ⟨hc 0 (by decide), hc 1 (by decide), hc 2 (by decide), hc 3 (by decide), hc 4 (by decide), hc 5 (by decide)⟩
theorem RowAt.ty {W : World} {F : Nat → Prop} {A : Option Addr} {ks : List Ty} (h : RowAt 2 TyAt W F A ks) {j : Nat} (hj : j < ks.length) :
    ∃ b off A' c, A = some ⟨b, off, none⟩ ∧ (small ks[j].name ∧ ks[j].rels.length ≤ 9223372036854775807) ∧ RowAt 6 RlAt W F A' ks[j].rels ∧ ∀ W', Below W.heap.size W W' → W'.cell? ⟨b, off + j * 2, none⟩ = some (strV ks[j].name) ∧ W'.cell? ⟨b, off + j * 2 + 1, none⟩ = some (.slice A' ks[j].rels.length c) := by
  rcases h with rfl | ⟨b, off, rfl, hb, _, hk⟩
  · simp at hj
  · obtain ⟨cs, ⟨A', c, rfl, hs, hr⟩, h2⟩ := hk j hj
    refine ⟨b, off, A', c, rfl, hs, hr, fun W' hW => ?_⟩
    have hc : ∀ i, i < 2 → W'.cell? ⟨b, off + j * 2 + i, none⟩ = [strV ks[j].name, .slice A' ks[j].rels.length c][i]? := fun i hi => (hW.cell (p := ⟨b, off + j * 2 + i, none⟩) hb).trans (h2 i hi)
    exact ⟨hc 0 (by decide), hc 1 (by decide)⟩
def eqRs : List Rl → List Rl → Bool
  | x :: xs, y :: ys => eqR x y && eqRs xs ys
  | _, _ => true
def eqT (x y : Ty) : Bool := if x.name = y.name ∧ x.rels.length = y.rels.length then eqRs x.rels y.rels else false
def eqTs : List Ty → List Ty → Bool
  | x :: xs, y :: ys => eqT x y && eqTs xs ys
  | _, _ => true
def eqS (a b : Sc) : Bool := if a.length = b.length then eqTs a b else false
theorem eqRs_drop {xs ys : List Rl} {j : Nat} (h1 : j < xs.length) (h2 : j < ys.length) : eqRs (xs.drop j) (ys.drop j) = (eqR xs[j] ys[j] && eqRs (xs.drop (j + 1)) (ys.drop (j + 1))) := by
  rw [List.drop_eq_getElem_cons h1, List.drop_eq_getElem_cons h2, eqRs]
theorem eqTs_drop {xs ys : List Ty} {j : Nat} (h1 : j < xs.length) (h2 : j < ys.length) : eqTs (xs.drop j) (ys.drop j) = (eqT xs[j] ys[j] && eqTs (xs.drop (j + 1)) (ys.drop (j + 1))) := by
  rw [List.drop_eq_getElem_cons h1, List.drop_eq_getElem_cons h2, eqTs]
set_option maxHeartbeats 2000000 in
theorem schemas_any (s t : Sc) (W : World) (F F' : Nat → Prop) (A A' : Option Addr) (c c' : Nat) (hs : ScAt W F A s) (ht : ScAt W F' A' t) (hl : s.length ≤ 9223372036854775807) :
    Calls Try.prog 11 #[.agg #[.slice A s.length c], .agg #[.slice A' t.length c']] W fun r w' => r = .returned (.bool (eqS s t)) ∧ Below W.heap.size W w' := by
  obtain ⟨v, hv⟩ : ∃ v, v = eqS s t := ⟨_, rfl⟩
  rw [← hv]
  unfold eqS at hv
  obtain ⟨W1, hW⟩ : ∃ W1, W1 = (W.alloc (.cells #[.slice A s.length c] 25)).alloc (.cells #[.slice A' t.length c'] 25) := ⟨_, rfl⟩
  have HK0 : Hid (Blk W1 W.heap.size [.slice A s.length c] 25) := by rw [hW]; exact Lib.hid ((Blk.new W [.slice A s.length c] _).alloc _)
  have HK1 : Hid (Blk W1 (W.heap.size + 1) [.slice A' t.length c'] 25) := by
    have h := Blk.new (W.alloc (.cells #[.slice A s.length c] 25)) [.slice A' t.length c'] 25
    rw [hW]
    exact Lib.hid (by simpa using h)
  have HB0 : Hid (Below W.heap.size W W1) := by rw [hW]; exact Lib.hid (((Below.refl W.heap.size W).alloc (Nat.le_refl _) _).alloc (by simp) _)
  have HS : Hid (RowAt 2 TyAt W F A s) := Lib.hid hs
  have HT : Hid (RowAt 2 TyAt W F' A' t) := Lib.hid ht
  have HW := Lib.hid hW
  clear hs ht hW
  by_cases h2 : s.length = t.length
  case neg =>
    rw [if_neg h2] at hv
    have hd : ((s.length : Int) != (t.length : Int)) = true := bne_iff_ne.2 (by omega)
    subst hv
    go_enter Try.func11, Try.ntmps11
    go_wp2_with fail
    go_ret
    exact ⟨rfl, by rw [← HW.out]; exact HB0.out⟩
  case pos =>
    rw [if_pos h2] at hv
    have HV := Lib.hid hv
    have HL := Lib.hid h2
    rw [← h2] at HK1 HW ⊢
    clear hv h2
    go_enter Try.func11, Try.ntmps11
    go_wp2_with fail
    rw [← HW.out]
    go_loopw [5] (fun i wr => ∃ j : Nat, j ≤ s.length ∧ i = .int .i64 j ∧ Hid (eqTs (s.drop j) (t.drop j) = v) ∧ Hid (Below W1.heap.size W1 wr)) (fun i _ => s.length - (intOf i).toNat)
    case atStart => exact ⟨0, by omega, rfl, Lib.hid HV.out.symm, Lib.hid (Below.refl _ _)⟩
    case round =>
      obtain ⟨j, hj, rfl, HQ, BW⟩ := hrel
      have x1 := (HK0.out.below BW.out HK0.out.lt).cell (i := 0) (by simp)
      have y1 := (HK1.out.below BW.out HK1.out.lt).cell (i := 0) (by simp)
      simp only [List.getElem_cons_zero] at x1 y1
      by_cases hlt : j < s.length
      · have hlt' : j < t.length := by rw [← HL.out]; exact hlt
        have HD := Lib.hid (eqTs_drop hlt hlt')
        obtain ⟨b, off, B, d, rfl, ⟨_, hrl⟩, hr, hc⟩ := HS.out.ty hlt
        obtain ⟨b', off', B', d', rfl, ⟨_, hrl'⟩, hr', hc'⟩ := HT.out.ty hlt'
        obtain ⟨z0, z1⟩ := hc wr (HB0.out.trans (BW.out.mono HB0.out.size))
        obtain ⟨u0, u1⟩ := hc' wr (HB0.out.trans (BW.out.mono HB0.out.size))
        have BWo : ∀ o, Below W.heap.size W (wr.alloc o) := fun o => (HB0.out.trans (BW.out.mono HB0.out.size)).alloc (Nat.le_trans HB0.out.size BW.out.size) o
        have y1o : ∀ o, (wr.alloc o).cell? ⟨W.heap.size + 1, 0, none⟩ = some (.slice (some ⟨b', off', none⟩) s.length c') := fun o => (HK1.out.below (BW.out.alloc (Nat.le_trans (Nat.le_refl _) BW.out.size) o) HK1.out.lt).cell (i := 0) (by simp)
        have u0o : ∀ o, (wr.alloc o).cell? ⟨b', off' + j * 2, none⟩ = some (strV t[j].name) := fun o => (hc' _ (BWo o)).1
        have u1o : ∀ o, (wr.alloc o).cell? ⟨b', off' + j * 2 + 1, none⟩ = some (.slice B' t[j].rels.length d') := fun o => (hc' _ (BWo o)).2
        obtain ⟨W2, hW2⟩ : ∃ W2, W2 = (wr.alloc (.cells #[strV s[j].name, .slice B s[j].rels.length d] 45)).alloc (.cells #[strV t[j].name, .slice B' t[j].rels.length d'] 45) := ⟨_, rfl⟩
        have HK2 : Hid (Blk W2 wr.heap.size [strV s[j].name, .slice B s[j].rels.length d] 45) := by rw [hW2]; exact Lib.hid ((Blk.new wr [strV s[j].name, .slice B s[j].rels.length d] _).alloc _)
        have HK3 : Hid (Blk W2 (wr.heap.size + 1) [strV t[j].name, .slice B' t[j].rels.length d'] 45) := by
          have h := Blk.new (wr.alloc (.cells #[strV s[j].name, .slice B s[j].rels.length d] 45)) [strV t[j].name, .slice B' t[j].rels.length d'] 45
          rw [hW2]
          exact Lib.hid (by simpa using h)
        have HB2 : Hid (Below W1.heap.size W1 W2) := by rw [hW2]; exact Lib.hid ((BW.out.alloc BW.out.size _).alloc (by simp; exact Nat.le_succ_of_le BW.out.size) _)
        have HW2 := Lib.hid hW2
        have HRL := Lib.hid hr
        have HRL' := Lib.hid hr'
        obtain ⟨r, hr1⟩ : ∃ r, eqT s[j] t[j] = r := ⟨_, rfl⟩
        rw [hr1] at HD
        unfold eqT at hr1
        clear hW2 hr hr' BWo hc hc'
        generalize s[j].name = nx at *
        generalize t[j].name = ny at *
        generalize s[j].rels = rx at *
        generalize t[j].rels = ry at *
        by_cases e1 : nx = ny
        case neg =>
          rw [if_neg (fun h => e1 h.1)] at hr1
          subst hr1
          have HQ2 : Hid (v = false) := by show _ = _; rw [← HQ.out, HD.out]; rfl
          have hd : (nx == ny) = false := beq_eq_false_iff_ne.2 e1
          go_wp2_with fail
          go_ret
          exact ⟨by rw [HQ2.out]; rfl, by rw [← HW2.out]; exact HB0.out.trans (HB2.out.mono HB0.out.size)⟩
        case pos =>
          have hn : (nx == ny) = true := beq_iff_eq.2 e1
          by_cases e2 : rx.length = ry.length
          case neg =>
            rw [if_neg (fun h => e2 h.2)] at hr1
            subst hr1
            have HQ2 : Hid (v = false) := by show _ = _; rw [← HQ.out, HD.out]; rfl
            have hd : ((rx.length : Int) != (ry.length : Int)) = true := bne_iff_ne.2 (by omega)
            clear e1
            go_wp2_with fail
            go_ret
            exact ⟨by rw [HQ2.out]; rfl, by rw [← HW2.out]; exact HB0.out.trans (HB2.out.mono HB0.out.size)⟩
          case pos =>
            rw [if_pos ⟨e1, e2⟩] at hr1
            have HRR := Lib.hid hr1
            have HL2 := Lib.hid e2
            rw [← e2] at HK3 HW2 u1o u1
            clear e1 e2 hr1
            go_wp2_with fail
            rw [← HW2.out]
            go_loopw [8] (fun i w3 => ∃ p : Nat, p ≤ rx.length ∧ i = .int .i64 p ∧ Hid (eqRs (rx.drop p) (ry.drop p) = r) ∧ Hid (Below W2.heap.size W2 w3)) (fun i _ => rx.length - (intOf i).toNat)
            case atStart => exact ⟨0, by omega, rfl, Lib.hid HRR.out, Lib.hid (Below.refl _ _)⟩
            case round =>
              rename World => w3
              obtain ⟨p, hp, rfl, HP, BW2⟩ := hrel
              have s1 := (HK2.out.below BW2.out HK2.out.lt).cell (i := 1) (by simp)
              have s2 := (HK3.out.below BW2.out HK3.out.lt).cell (i := 1) (by simp)
              simp only [List.getElem_cons_succ, List.getElem_cons_zero] at s1 s2
              by_cases hpl : p < rx.length
              · have hpl' : p < ry.length := by rw [← HL2.out]; exact hpl
                have HE := Lib.hid (eqRs_drop hpl hpl')
                obtain ⟨g, og, n1, B1, m1, c1, k1, p1, q1, E1, m2, c2, rfl, hE, hcells⟩ := HRL.out.rel hpl
                obtain ⟨g', og', n3, B3, m3, c3, k3, p3, q3, E3, m4, c4, rfl, hE', hcells'⟩ := HRL'.out.rel hpl'
                have hS : ∀ w', Below W2.heap.size W2 w' → (w'.cell? ⟨wr.heap.size, 1, none⟩ = some (.slice (some ⟨g, og, none⟩) rx.length d) ∧ w'.cell? ⟨wr.heap.size + 1, 1, none⟩ = some (.slice (some ⟨g', og', none⟩) rx.length d')) ∧
                  (w'.cell? ⟨g, og + p * 6, none⟩ = some (strV n1) ∧ w'.cell? ⟨g, og + p * 6 + 1, none⟩ = some (.slice B1 m1 c1) ∧ w'.cell? ⟨g, og + p * 6 + 2, none⟩ = some (.int .i64 k1) ∧ w'.cell? ⟨g, og + p * 6 + 3, none⟩ = some (strV p1) ∧ w'.cell? ⟨g, og + p * 6 + 4, none⟩ = some (strV q1) ∧ w'.cell? ⟨g, og + p * 6 + 5, none⟩ = some (.slice E1 m2 c2)) ∧ (w'.cell? ⟨g', og' + p * 6, none⟩ = some (strV n3) ∧ w'.cell? ⟨g', og' + p * 6 + 1, none⟩ = some (.slice B3 m3 c3) ∧ w'.cell? ⟨g', og' + p * 6 + 2, none⟩ = some (.int .i64 k3) ∧ w'.cell? ⟨g', og' + p * 6 + 3, none⟩ = some (strV p3) ∧ w'.cell? ⟨g', og' + p * 6 + 4, none⟩ = some (strV q3) ∧ w'.cell? ⟨g', og' + p * 6 + 5, none⟩ = some (.slice E3 m4 c4)) := fun w' hw => by
                  have hb := (HB0.out.trans (HB2.out.mono HB0.out.size)).trans (hw.mono (Nat.le_trans HB0.out.size HB2.out.size))
                  exact ⟨⟨(HK2.out.below hw HK2.out.lt).cell (i := 1) (by simp), (HK3.out.below hw HK3.out.lt).cell (i := 1) (by simp)⟩, hcells w' hb, hcells' w' hb⟩
                have HSS := Lib.hid hS
                have hS0 := hS _ BW2.out.drew
                have hbb := (HB0.out.trans (HB2.out.mono HB0.out.size)).trans (BW2.out.drew.mono (Nat.le_trans HB0.out.size HB2.out.size))
                have HC := Lib.hid (rels_any rx[p] ry[p] w3.drew F F' _ _ (hE.below hbb) (hE'.below hbb))
                obtain ⟨q, hq⟩ : ∃ q, eqR rx[p] ry[p] = q := ⟨_, rfl⟩
                rw [hq] at HC HE
                clear hS hE hE' hcells hcells' hq hbb
                cases q
                · have HQ3 : Hid (r = false) := by
                    show _ = _
                    rw [← HP.out, HE.out]; rfl
                  have HQ2 : Hid (v = false) := by show _ = _; rw [← HQ.out, HD.out, HQ3.out]; rfl
                  go_wp2_with fail
                  go_region_held_law (fun w' => (w'.cell? ⟨wr.heap.size, 1, none⟩ = some (.slice (some ⟨g, og, none⟩) rx.length d) ∧ w'.cell? ⟨wr.heap.size + 1, 1, none⟩ = some (.slice (some ⟨g', og', none⟩) rx.length d')) ∧
                                    (w'.cell? ⟨g, og + p * 6, none⟩ = some (strV n1) ∧ w'.cell? ⟨g, og + p * 6 + 1, none⟩ = some (.slice B1 m1 c1) ∧ w'.cell? ⟨g, og + p * 6 + 2, none⟩ = some (.int .i64 k1) ∧ w'.cell? ⟨g, og + p * 6 + 3, none⟩ = some (strV p1) ∧ w'.cell? ⟨g, og + p * 6 + 4, none⟩ = some (strV q1) ∧ w'.cell? ⟨g, og + p * 6 + 5, none⟩ = some (.slice E1 m2 c2)) ∧ (w'.cell? ⟨g', og' + p * 6, none⟩ = some (strV n3) ∧ w'.cell? ⟨g', og' + p * 6 + 1, none⟩ = some (.slice B3 m3 c3) ∧ w'.cell? ⟨g', og' + p * 6 + 2, none⟩ = some (.int .i64 k3) ∧ w'.cell? ⟨g', og' + p * 6 + 3, none⟩ = some (strV p3) ∧ w'.cell? ⟨g', og' + p * 6 + 4, none⟩ = some (strV q3) ∧ w'.cell? ⟨g', og' + p * 6 + 5, none⟩ = some (.slice E3 m4 c4)))
                    (with_reducible assumption)
                    (first
                      | (go_at_call 31; refine HC.out.mono ?_; rintro e w4 ⟨rfl, hb4⟩; have HB4 := Lib.hid (BW2.out.drew.trans (hb4.mono BW2.out.drew.size)); have hS4 := HSS.out _ HB4.out; clear hb4))
                  go_wp2_with fail
                  go_ret
                  exact ⟨by rw [HQ2.out]; rfl, (HB0.out.trans (HB2.out.mono HB0.out.size)).trans (HB4.out.mono (Nat.le_trans HB0.out.size HB2.out.size))⟩
                · have HQ3 : Hid (eqRs (rx.drop (p + 1)) (ry.drop (p + 1)) = r) := by
                    show _ = _
                    rw [← HP.out, HE.out]; rfl
                  go_wp2_with fail
                  go_region_held_law (fun w' => (w'.cell? ⟨wr.heap.size, 1, none⟩ = some (.slice (some ⟨g, og, none⟩) rx.length d) ∧ w'.cell? ⟨wr.heap.size + 1, 1, none⟩ = some (.slice (some ⟨g', og', none⟩) rx.length d')) ∧
                                    (w'.cell? ⟨g, og + p * 6, none⟩ = some (strV n1) ∧ w'.cell? ⟨g, og + p * 6 + 1, none⟩ = some (.slice B1 m1 c1) ∧ w'.cell? ⟨g, og + p * 6 + 2, none⟩ = some (.int .i64 k1) ∧ w'.cell? ⟨g, og + p * 6 + 3, none⟩ = some (strV p1) ∧ w'.cell? ⟨g, og + p * 6 + 4, none⟩ = some (strV q1) ∧ w'.cell? ⟨g, og + p * 6 + 5, none⟩ = some (.slice E1 m2 c2)) ∧ (w'.cell? ⟨g', og' + p * 6, none⟩ = some (strV n3) ∧ w'.cell? ⟨g', og' + p * 6 + 1, none⟩ = some (.slice B3 m3 c3) ∧ w'.cell? ⟨g', og' + p * 6 + 2, none⟩ = some (.int .i64 k3) ∧ w'.cell? ⟨g', og' + p * 6 + 3, none⟩ = some (strV p3) ∧ w'.cell? ⟨g', og' + p * 6 + 4, none⟩ = some (strV q3) ∧ w'.cell? ⟨g', og' + p * 6 + 5, none⟩ = some (.slice E3 m4 c4)))
                    (with_reducible assumption)
                    (first
                      | (go_at_call 31; refine HC.out.mono ?_; rintro e w4 ⟨rfl, hb4⟩; have HB4 := Lib.hid (BW2.out.drew.trans (hb4.mono BW2.out.drew.size)); have hS4 := HSS.out _ HB4.out; clear hb4))
                  go_wp2_with fail
                  go_roundw
                  case rel => exact ⟨p + 1, by omega, by go_num, HQ3, HB4⟩
                  case measure => simp [intOf]; omega
              · have HQ3 : Hid (r = true) := by
                  show _ = _
                  rw [← HP.out, List.drop_of_length_le (by omega), eqRs]
                  intro _ _ _ _ h; cases h
                have HQ2 : Hid (eqTs (s.drop (j + 1)) (t.drop (j + 1)) = v) := by
                  show _ = _
                  rw [← HQ.out, HD.out, HQ3.out]; rfl
                go_wp2_with fail
                go_roundw
                case rel => exact ⟨j + 1, by omega, by go_num, HQ2, Lib.hid (HB2.out.trans (BW2.out.mono HB2.out.size))⟩
                case measure => simp [intOf]; omega
      · have HQ2 : Hid (v = true) := by
          show _ = _
          rw [← HQ.out, List.drop_of_length_le (by omega), eqTs]
          intro _ _ _ _ h; cases h
        go_wp2_with fail
        go_ret
        exact ⟨by rw [HQ2.out]; rfl, HB0.out.trans (BW.out.mono HB0.out.size)⟩
end Go.Proofs.Ytpiaiibobjlipaa
