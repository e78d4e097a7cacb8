/-
  The program's Insert. Conditions: the rows are there; at most 200,000 tuples.
-/
import Derived.Test.YtehabjiacgibpaaGreatCTpL
import Derived.Test.YtehabjiacgibpaaGreatCTrConT
namespace Go.Proofs.YtehabjiacgibpaaGreat
open Go.RowKit
set_option maxRecDepth 100000 in
set_option maxHeartbeats 4000000 in
theorem news_any (L : List Tup) (A : Option Addr) (n c Bs : Nat) (W : World) (hn : n = L.length) (hL : n ≤ 1000000) (hR : TuR W A L) (hBs : W.cell? ⟨Bs, 0, none⟩ = some (.slice A n c)) (j : Nat) (hj : j < n) :
    Calls Tryz.prog 26 #[.int .i64 j, .pointer (some ⟨Bs, 0, none⟩)] W fun e w' => e = .returned (.bool (news L j)) ∧ Below W.heap.size W w' := by
  cases j with
  | zero =>
    have hz : ((0 : Nat) : Int) = 0 := rfl
    clear hR
    go_enter Tryz.func26, Tryz.ntmps26
    go_wp2_with fail
    go_quiet (fail)
    go_wp2_with fail
    go_ret
    exact ⟨rfl, below_drewN (Below.refl _ _) _⟩
  | succ k =>
    obtain ⟨b, off, hA, hat⟩ := hR.addr (by omega)
    obtain ⟨q0, q1, q2, q3, q4, q5, hq, hc⟩ := hat (k + 1) (by omega)
    obtain ⟨p0, p1, p2, p3, p4, p5, hp, hc'⟩ := hat k (by omega)
    obtain ⟨v, hv⟩ : ∃ v, decide ((q0, q1, q2, q3, q4, q5) = (p0, p1, p2, p3, p4, p5)) = v := ⟨_, rfl⟩
    have e1 : ∀ w, _ := tup_neq q0 q1 q2 q3 q4 q5 p0 p1 p2 p3 p4 p5
    rw [hv] at e1
    have HN : Hid (news L (k + 1) = !v) := Lib.hid (by
      unfold news
      rw [List.getElem?_eq_getElem (by omega), List.getElem?_eq_getElem (by omega), ← hv]
      have e : L[k + 1 - 1]'(by omega) = L[k]'(by omega) := rfl
      rw [e, hq, hp, decide_eq_false (by omega), Bool.false_or]
      congr 1
      rw [decide_eq_decide]
      exact ⟨fun h => by injection h, fun h => by rw [h]⟩)
    rw [HN.out]
    subst hA
    obtain ⟨z0, z1, z2, z3, z4, z5⟩ := hc W (Below.refl _ _)
    obtain ⟨y0, y1, y2, y3, y4, y5⟩ := hc' W (Below.refl _ _)
    have hz : (k : Int) + 1 < (n : Int) := by omega
    have hz0 : (k : Int) < (n : Int) := by omega
    have hs0 : ¬ ((k : Int) + 1 = 0) := by omega
    have hs7 : ((k : Int) + 1 == 0) = false := by rw [beq_eq_false_iff_ne]; omega
    have hs1 : IntKind.i64.wrap ((k : Int) + 1 - 1) = (k : Int) := by rw [IntKind.wrap_i64]; omega
    have hs2 : (k : Int) + 1 - 1 = (k : Int) := by omega
    have hs3 : ¬ ((k : Int) + 1 < 0) := by omega
    have hs4 : ((k : Int) + 1).toNat = k + 1 := by omega
    have hs5 : IntKind.i64.wrap (k : Int) = (k : Int) := by rw [IntKind.wrap_i64]; omega
    have hs6 : 0 ≤ (k : Int) + 1 := by omega
    rw [show ((k + 1 : Nat) : Int) = (k : Int) + 1 by omega]
    clear hR hc hc' hat hq hp hv
    go_enter Tryz.func26, Tryz.ntmps26
    go_wp2_with fail
    go_quiet (fail)
    go_wp2_with fail
    go_ret
    exact ⟨rfl, below_drewN (Below.refl _ _) _⟩
theorem own_lower {w : World} {base base' : Nat} {e : TypeId} {s n : Nat} {v : Value} {xs : List Value} (h : w.ownsRow base e s v n xs) (hb : base' ≤ base) : w.ownsRow base' e s v n xs :=
  ⟨h.1, h.2.imp id (fun ⟨g, cap, cur, hv, hg, rest⟩ => ⟨g, cap, cur, hv, Nat.le_trans hb hg, rest⟩)⟩
theorem cells_tup {W : World} {A : Option Addr} {l : List Tup} (h : TuR W A l) : Cells W (fun _ => False) A (l.flatMap encT) := by
  by_cases hl : l = []
  · subst hl; exact .inl rfl
  · obtain ⟨b, off, rfl, _⟩ := h.addr (List.length_pos_iff.2 hl)
    have hb : b < W.heap.size := by
      rcases h with h | ⟨b', off', hA, hb, _⟩
      · exact absurd h hl
      · injection hA with hA
        injection hA with e _ _
        subst e
        exact hb
    refine .inr ⟨b, off, rfl, hb, fun h => h, fun j hj => ?_⟩
    have := h.news j _ (List.getElem?_eq_getElem hj)
    rw [show (⟨b, off, none⟩ : Addr).add j = ⟨b, off + j, none⟩ by simp [Addr.add]] at this
    exact this
theorem concat_tups (l more : List Tup) (A B : Option Addr) (c d : Nat) (W : World) (h : TuR W A l) (h' : TuR W B more) (hl : l.length ≤ 100000) (hg : more.length ≤ 100000) :
    Calls Tryz.prog 21 #[.slice (some ⟨W.heap.size, 0, none⟩) 2 2] (W.alloc (.cells #[.slice A l.length c, .slice B more.length d] 22)) fun e w' => ∃ A' n c', e = .returned (.slice A' n c') ∧ n = (l ++ more).length ∧
      w'.ownsRow (W.alloc (.cells #[.slice A l.length c, .slice B more.length d] 22)).heap.size 34 6 (.slice A' n c') n ((l ++ more).flatMap encT) ∧ Below (W.alloc (.cells #[.slice A l.length c, .slice B more.length d] 22)).heap.size (W.alloc (.cells #[.slice A l.length c, .slice B more.length d] 22)) w' := by
  have hb := (Below.refl W.heap.size W).alloc (Nat.le_refl _) (.cells #[.slice A l.length c, .slice B more.length d] 22)
  have hk := Blk.new W [.slice A l.length c, .slice B more.length d] 22
  have h1 := h.below hb
  have h2 := h'.below hb
  have ht : tot [(A, l.length, c, l.flatMap encT), (B, more.length, d, more.flatMap encT)] = (l ++ more).length := by simp [tot]
  have hc : cat [(A, l.length, c, l.flatMap encT), (B, more.length, d, more.flatMap encT)] = (l ++ more).flatMap encT := by simp [cat]
  have hh := concatT_any (W.alloc (.cells #[.slice A l.length c, .slice B more.length d] 22)) (fun _ => False) W.heap.size 0 2 2 [(A, l.length, c, l.flatMap encT), (B, more.length, d, more.flatMap encT)] rfl (by decide) (by simp)
    (fun j hj => by
      have : j = 0 ∨ j = 1 := by simp at hj; omega
      rcases this with rfl | rfl
      · exact hk.cell (i := 0) (by simp)
      · exact hk.cell (i := 1) (by simp))
    (fun r hr => by
      simp only [List.mem_cons, List.not_mem_nil, or_false] at hr
      rcases hr with rfl | rfl
      · exact ⟨cells_tup h1, flatT_len l, flatT_one l⟩
      · exact ⟨cells_tup h2, flatT_len more, flatT_one more⟩)
    (by rw [ht, List.length_append]; omega)
  rw [ht, hc] at hh
  refine hh.mono ?_
  rintro e w' ⟨⟨A', c', rfl, ho⟩, hb2⟩
  exact ⟨A', _, c', rfl, rfl, ho, hb2⟩
set_option maxRecDepth 100000 in
set_option maxHeartbeats 4000000 in
theorem insert_any (l more : List Tup) (A B : Option Addr) (c d : Nat) (W : World) (h : TuR W A l) (h' : TuR W B more) (hl : l.length ≤ 100000) (hg : more.length ≤ 100000) :
    Calls Tryz.prog 9 #[.slice A l.length c, .slice B more.length d] W fun e w' => ∃ r, Ord.Srt lessT r ∧ (∀ x, x ∈ r ↔ x ∈ l ∨ x ∈ more) ∧ TupsP W r e w' := by
  obtain ⟨W1, hW⟩ : ∃ W1, W1 = W.alloc (.cells #[.slice A l.length c, .slice B more.length d] 22) := ⟨_, rfl⟩
  have hb0 : Below W.heap.size W W1 := by rw [hW]; exact (Below.refl _ _).alloc (Nat.le_refl _) _
  have HC := concat_tups l more A B c d W h h' hl hg
  rw [← hW] at HC
  have HC := Lib.hid HC
  have HOK : Hid (∀ t ∈ l ++ more, okT t) := Lib.hid (fun t ht => (List.mem_append.1 ht).elim h.ok h'.ok)
  have HLN : Hid ((l ++ more).length ≤ 200000) := Lib.hid (by rw [List.length_append]; omega)
  have HME : Hid (∀ x, x ∈ l ++ more ↔ x ∈ l ∨ x ∈ more) := Lib.hid (fun x => List.mem_append)
  have HB0 := Lib.hid hb0
  have HW := Lib.hid hW
  generalize l ++ more = K at *
  have eg : ∀ args w, (callFunc 26 args).run Tryz.prog w = .ok (.enter 26 args) w := enters_of Tryz.func26 (by kernel_rfl) rfl
  have EG := Lib.hid eg
  clear h h' hb0 hW eg
  go_enter Tryz.func9, Tryz.ntmps9
  go_wp2_with fail
  show Calls _ _ _ (W.alloc (.cells #[.slice A l.length c, .slice B more.length d] 22)) _
  rw [← HW.out]
  refine HC.out.mono ?_
  rintro e w2 ⟨A2, n2, c2, rfl, hn2, ho2, hb2⟩
  obtain ⟨w3, hw3⟩ : ∃ w3, w3 = w2.alloc (.cells #[.slice A2 n2 c2] 22) := ⟨_, rfl⟩
  have hk3 : Blk w3 w2.heap.size [.slice A2 n2 c2] 22 := by rw [hw3]; exact Blk.new _ _ _
  have ho3 : w3.ownsRow W1.heap.size 34 6 (.slice A2 n2 c2) n2 (K.flatMap encT) := by rw [hw3]; exact ho2.alloc _
  have hb3 : Below W.heap.size W w3 := by rw [hw3]; exact (HB0.out.trans (hb2.mono HB0.out.size)).alloc (Nat.le_trans HB0.out.size hb2.size) _
  have HS := Lib.hid (tsort_any K A2 n2 c2 w2.heap.size W1.heap.size w3 hn2 (by rw [hn2]; exact Nat.le_trans HLN.out (by decide)) ho3 HOK.out hk3.lt (fun a ha e => by
    have := (ho2.lt a.block (by rw [ha]; rfl)).2
    omega) (hk3.cell (i := 0) (by simp)))
  have HG3 : Hid (∀ w4, w3.grownBy w4 (Value.slice A2 n2 c2).ownBlock → Below W.heap.size W w4) := Lib.hid (fun w4 hg => below_grown hb3 hb3.size (own_lower ho3 HB0.out.size) hg)
  have x3 := hk3.cell (i := 0) (by simp)
  simp only [List.getElem_cons_zero] at x3
  rw [hw3] at x3
  have HN2 := Lib.hid hn2
  have HW3 := Lib.hid hw3
  clear ho2 hb2 hw3 hk3 ho3 hb3 hn2 HC
  go_wp2_with fail
  show Calls _ _ _ (w2.alloc (.cells #[.slice A2 n2 c2] 22)) _
  rw [← HW3.out]
  refine HS.out.mono ?_
  rintro e w4 ⟨rfl, L, hnL, hrL, hasc, hmem, x4, hg4, hB4⟩
  have HB4 := Lib.hid (HG3.out w4 hg4)
  have HT : Hid (Calls Tryz.prog 25 #[.slice A2 n2 c2, .func (.func 26) #[] #[.pointer (some ⟨w2.heap.size, 0, none⟩)]] w4 (TupsP w4 (pickN (news L) L L.length))) := Lib.hid (by
    have hln : L.length ≤ 1000000 := by rw [← hnL, HN2.out]; exact Nat.le_trans HLN.out (by decide)
    have h := those_any 26 #[.pointer (some ⟨w2.heap.size, 0, none⟩)] (news L) L A2 c2 w4 hrL hln (fun t ht => HOK.out t ((hmem t).1 ht)) EG.out
      (fun w hw j hj => news_any L A2 n2 c2 w2.heap.size w hnL (by omega) (hrL.below hw) ((hw.cell (p := ⟨w2.heap.size, 0, none⟩) hB4).trans x4) j (by omega))
    rw [← hnL] at h
    rw [← hnL]
    exact h)
  have hna := news_all hasc
  have HR : Hid (Ord.Srt lessT (pickN (news L) L L.length) ∧ ∀ x, x ∈ pickN (news L) L L.length ↔ x ∈ l ∨ x ∈ more) := Lib.hid ⟨hna.1, fun x => by rw [hna.2, hmem, HME.out]⟩
  clear hnL hrL hasc hmem hg4 hB4 hna x3 HS
  unfold TupsP at HT
  generalize pickN (news L) L L.length = r at *
  go_wp2_with fail
  refine HT.out.mono ?_
  rintro e w5 ⟨A5, n5, c5, rfl, hn5, hr5, hb5⟩
  have HN5 := Lib.hid hn5
  clear hn5
  go_wp2_with fail
  go_ret
  exact ⟨r, HR.out.1, HR.out.2, A5, n5, c5, rfl, HN5.out, hr5, hop HB4.out hb5⟩
theorem insert_srt (l more : List Tup) (A B : Option Addr) (c d : Nat) (W : World) (h : TuR W A l) (h' : TuR W B more) (hl : l.length ≤ 100000) (hg : more.length ≤ 100000) (ho : Ord.Srt lessT l) :
    Calls Tryz.prog 9 #[.slice A l.length c, .slice B more.length d] W (TupsP W (Ord.insAll lessT l more)) := by
  refine (insert_any l more A B c d W h h' hl hg).mono ?_
  rintro e w' ⟨r, h1, h2, h3⟩
  have e1 : r = Ord.insAll lessT l more := Ord.Srt.unique ordT h1 (Ord.Srt.insAll ordT ho) (fun x => by rw [h2, Ord.mem_insAll])
  rw [← e1]
  exact h3
end Go.Proofs.YtehabjiacgibpaaGreat
