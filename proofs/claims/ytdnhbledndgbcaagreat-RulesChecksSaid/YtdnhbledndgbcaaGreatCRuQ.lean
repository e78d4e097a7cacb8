/-
  Levels raised once (conciergeref12's raised). Conditions: the rows and the levels are there; all numbers that the rows name are.
  The document's levels, walked (conciergeref12's levels). Conditions: the schema is there; nothing is wrong with its names; no relation leans on too many.
-/
import Derived.Test.YtdnhbledndgbcaaGreatCRoQe
import Derived.Test.YtdnhbledndgbcaaGreatCRuW
namespace Go.Proofs.YtdnhbledndgbcaaGreat
open Go.RowKit
def edges : List Rw → Nat
  | [] => 0
  | r :: w => r.2.length + edges w
abbrev inG (gs : List Nat) : Nat → Prop := fun i => i ∈ gs
theorem LvAt.below {W W' : World} {A : Option Addr} {gs : List Nat} {l : Lv2} (h : LvAt W A gs l) (hb : Below W.heap.size W W') : LvAt W' A gs l := by
  obtain ⟨h1, h2, h3⟩ := h
  refine ⟨h1, h2.imp id (fun ⟨b, off, hA, hbs, hbg, hc⟩ => ⟨b, off, hA, Nat.lt_of_lt_of_le hbs hb.size, hbg, fun i hi hg => ?_⟩), fun i hi hg => (h3 i hi hg).below hb (h3 i hi hg).lt⟩
  obtain ⟨c, hc'⟩ := hc i hi hg
  exact ⟨c, (hb.cell (p := ⟨b, off + i, none⟩) hbs).trans hc'⟩
theorem raisedL_cons {w : List Rw} {top j : Nat} {s : Lv2 × Bool} (h : j < w.length) : (w.drop j).foldl (raiseR top) s = (w.drop (j + 1)).foldl (raiseR top) ((w[j].2).foldl (raise1 top w[j].1) s) := by
  rw [List.drop_eq_getElem_cons h, List.foldl_cons]; rfl
theorem edges_drop {w : List Rw} {j : Nat} (h : j < w.length) : edges (w.drop j) = w[j].2.length + edges (w.drop (j + 1)) := by
  rw [List.drop_eq_getElem_cons h, edges]
set_option maxRecDepth 100000 in
set_option maxHeartbeats 4000000 in
theorem raised_any (w : List Rw) (l : Lv2) (W : World) (A B : Option Addr) (c d : Nat) (gs : List Nat) (hw : RowAt 3 RwAt W (inG gs) A w) (hl : LvAt W B gs l) (hok : ∀ r ∈ w, lvH l r.1 ∧ ∀ c ∈ r.2, lvH l c.1)
    (hwl : w.length ≤ 1000000) (_ : l.length ≤ 1000000) (hbd : ∀ x, lvG l x + edges w ≤ 4611686018427387904) :
    Calls Tryz.prog 35 #[.slice A w.length c, .slice B l.length d] W fun r w' => r = .returned (.bool (raisedL w l).2) ∧ LvAt w' B gs (raisedL w l).1 ∧ Spared W w' (inG gs) := by
  obtain ⟨R, hR⟩ : ∃ R, R = raisedL w l := ⟨_, rfl⟩
  rw [← hR]
  have HR : Hid (R = (w.drop 0).foldl (raiseR w.length) (l, false)) := Lib.hid (by rw [hR, List.drop_zero]; rfl)
  have HRW := Lib.hid hw
  have HOK := Lib.hid hok
  have HBD : Hid (∀ x, lvG l x + edges (w.drop 0) ≤ 4611686018427387904) := Lib.hid hbd
  have HL := Lib.hid hl
  clear hR hw hok hbd hl
  go_enter Tryz.func35, Tryz.ntmps35
  go_wp2_with fail
  go_loopw [5, 6] (fun m i wr => ∃ (j : Nat) (lv : Lv2) (mo : Bool), j ≤ w.length ∧ i = .int .i64 j ∧ m = .bool mo ∧ Hid (R = (w.drop j).foldl (raiseR w.length) (lv, mo)) ∧ Hid (LvAt wr B gs lv) ∧ Hid (lv.length = l.length ∧ ∀ r ∈ w, lvH lv r.1 ∧ ∀ c ∈ r.2, lvH lv c.1) ∧ Hid (∀ x, lvG lv x + edges (w.drop j) ≤ 4611686018427387904) ∧ Hid (Spared W wr (inG gs))) (fun _ i _ => w.length - (intOf i).toNat)
  case atStart => exact ⟨0, l, false, by omega, rfl, rfl, HR, HL, Lib.hid ⟨rfl, HOK.out⟩, HBD, Lib.hid (Spared.refl _ _)⟩
  case round =>
    obtain ⟨j, lv, mo, hj, rfl, rfl, H, HLV, HH, HBM, HSP⟩ := hrel
    by_cases hlt : j < w.length
    · obtain ⟨b, off, L, cl, rfl, ⟨hx1, hx2, hx3⟩, hln, hc⟩ := HRW.out.rw3 hlt
      obtain ⟨z0, z1, z2⟩ := hc wr HSP.out
      have HC := Lib.hid hc
      have HLN := Lib.hid hln
      have HM := Lib.hid (HOK.out _ (List.getElem_mem hlt))
      have H2 : Hid (R = (w.drop (j + 1)).foldl (raiseR w.length) ((w[j].2.drop 0).foldl (raise1 w.length w[j].1) (lv, mo))) := Lib.hid (by rw [H.out, raisedL_cons hlt, List.drop_zero])
      have HB2 : Hid (∀ x, lvG lv x + ((w[j].2.drop 0).length + edges (w.drop (j + 1))) ≤ 4611686018427387904) := Lib.hid (fun x => by have := HBM.out x; rw [edges_drop hlt] at this; rw [List.drop_zero]; exact this)
      have HWJ : Hid (lvH lv w[j].1 ∧ ∀ c ∈ w[j].2, lvH lv c.1) := Lib.hid (HH.out.2 _ (List.getElem_mem hlt))
      clear hc hln HM H
      generalize w[j].2 = ls at *
      generalize w[j].1 = x at *
      obtain ⟨t, r⟩ := x
      dsimp only at hx1 hx2 z0 z1
      go_wp2_with fail
      clear z0 z1 z2 HBM
      go_loopw [5, 9] (fun m i w2 => ∃ (n : Nat) (lv : Lv2) (mo : Bool), n ≤ ls.length ∧ i = .int .i64 n ∧ m = .bool mo ∧ Hid (R = (w.drop (j + 1)).foldl (raiseR w.length) ((ls.drop n).foldl (raise1 w.length (t, r)) (lv, mo))) ∧ Hid (LvAt w2 B gs lv) ∧ Hid ((lv.length = l.length ∧ ∀ r ∈ w, lvH lv r.1 ∧ ∀ c ∈ r.2, lvH lv c.1) ∧ lvH lv (t, r) ∧ ∀ c ∈ ls, lvH lv c.1) ∧ Hid (∀ x, lvG lv x + ((ls.drop n).length + edges (w.drop (j + 1))) ≤ 4611686018427387904) ∧ Hid (Spared W w2 (inG gs))) (fun _ i _ => ls.length - (intOf i).toNat)
      case atStart => exact ⟨0, lv, mo, by omega, rfl, rfl, H2, HLV, Lib.hid ⟨HH.out, HWJ.out⟩, HB2, HSP⟩
      case round =>
        rename World => w2
        clear H2 HLV HH HB2 HSP HWJ
        obtain ⟨n, lv, mo, hn, rfl, rfl, H, HLV, HH, HBM, HSP⟩ := hrel
        obtain ⟨z0, z1, z2⟩ := HC.out w2 HSP.out
        by_cases hnl : n < ls.length
        · obtain ⟨b3, off3, rfl, ⟨hT, hRR⟩, hc3⟩ := HLN.out.ln hnl
          obtain ⟨y0, y1, y2⟩ := hc3 w2 HSP.out
          have hcl : lvH lv ls[n].1 := HH.out.2.2 _ (List.getElem_mem hnl)
          have HRN : Hid (R = (w.drop (j + 1)).foldl (raiseR w.length) ((ls.drop (n + 1)).foldl (raise1 w.length (t, r)) (raise1 w.length (t, r) (lv, mo) ls[n]))) := Lib.hid (by rw [H.out, List.drop_eq_getElem_cons hnl, List.foldl_cons])
          have hbn : ∀ x, lvG lv x + ((ls.drop (n + 1)).length + 1 + edges (w.drop (j + 1))) ≤ 4611686018427387904 := fun x => by have := HBM.out x; rw [List.length_drop] at this ⊢; omega
          generalize ls[n] = cc at *
          obtain ⟨⟨T, Q⟩, ou⟩ := cc
          dsimp only at y0 y1 y2 hT hRR hcl HRN
          obtain ⟨w3, hw3⟩ : ∃ w3, w3 = w2.alloc (.cells #[iv T, iv Q, .bool ou] 109) := ⟨_, rfl⟩
          have hb3 : Below w2.heap.size w2 w3 := by rw [hw3]; exact (Below.refl _ _).alloc (Nat.le_refl _) _
          have hk3 : Blk w3 w2.heap.size [iv T, iv Q, .bool ou] 109 := by rw [hw3]; exact Blk.new _ _ _
          have HLV3 := Lib.hid (HLV.out.below hb3)
          have HSP3 := Lib.hid (HSP.out.trans (Spared.of_below hb3 (inG gs)) (fun _ h => .inl h))
          obtain ⟨b2, off2, g1, n1, c1, hA1, hg1, hlt1, e1, e2, _, _⟩ := HLV3.out.at_ hcl
          obtain ⟨b2', off2', g2, n2, c2, hA2, hg2, hlt2, e3, e4, e5, hset⟩ := HLV3.out.at_ HH.out.2.1
          rw [hA1] at hA2
          injection hA2 with hA2
          injection hA2 with hb22 ho22 _
          subst hb22 ho22
          have k0 := hk3.cell (i := 0) (by simp)
          have k1 := hk3.cell (i := 1) (by simp)
          have k2 := hk3.cell (i := 2) (by simp)
          simp only [List.getElem_cons_succ, List.getElem_cons_zero] at k0 k1 k2
          dsimp only at hlt1 hlt2 e1 e2 e3 e4 e5 hset
          have hTl : T < l.length := by rw [← HH.out.1.1]; exact hcl.1
          have htl : t < l.length := by rw [← HH.out.1.1]; exact HH.out.2.1.1
          have HSET := Lib.hid hset
          have hb1 := hbn (T, Q)
          have hb2 := hbn (t, r)
          have HBN := Lib.hid hbn
          have HRN := Lib.hid HRN
          have HW3 := Lib.hid hw3
          obtain ⟨p, hp⟩ : ∃ p, lvG lv (T, Q) = p := ⟨_, rfl⟩
          obtain ⟨q, hq⟩ : ∃ q, lvG lv (t, r) = q := ⟨_, rfl⟩
          rw [hp] at e2 hb1
          rw [hq] at e4 hb2
          have HP := Lib.hid (And.intro hp hq)
          clear hset hbn hp hq hb3 hk3 hc3 hw3
          subst hA1
          go_wp2_with fail
          rw [← HW3.out]
          go_region
          cases ou
          · have hle : leastL lv ((T, Q), false) = p := by unfold leastL; rw [HP.out.1]; rfl
            by_cases hr1 : q < p
            · by_cases hr2 : q ≤ w.length
              · have hri : raise1 w.length (t, r) (lv, mo) ((T, Q), false) = (lvS lv (t, r) (p), true) := by
                  unfold raise1
                  rw [hle]
                  dsimp only
                  rw [HP.out.2, if_pos ⟨hr1, hr2⟩]
                have HN := Lib.hid (hri ▸ HRN.out)
                have q1 : (q : Int) < (p : Int) := by omega
                have q2 : (q : Int) ≤ (w.length : Int) := by omega
                have HLS := Lib.hid (HSET.out (p))
                clear hri hle
                go_wp2_with fail
                go_roundw
                case rel =>
                  refine ⟨n + 1, lvS lv (t, r) (p), true, by omega, by go_num, rfl, HN, ?_, Lib.hid ⟨⟨by rw [← HH.out.1.1]; simp [lvS], fun q hq => ⟨lvH_set (HH.out.1.2 q hq).1, fun d hd => lvH_set ((HH.out.1.2 q hq).2 d hd)⟩⟩, lvH_set HH.out.2.1, fun d hd => lvH_set (HH.out.2.2 d hd)⟩, Lib.hid (fun x => ?_), ?_⟩
                  · exact Lib.hid (by first | exact HLS.out | simpa using HLS.out)
                  · rw [lvG_set HH.out.2.1]
                    split
                    · omega
                    · have := HBN.out x; omega
                  · exact Lib.hid (by first | exact (HSP3.out.setCell hg2 r _) | exact (HSP3.out.drew.setCell hg2 r _) | exact (HSP3.out.setCell hg2 r _).drew)
                case measure => simp [intOf]; omega
              · have hri : raise1 w.length (t, r) (lv, mo) ((T, Q), false) = (lv, mo) := by
                  unfold raise1
                  rw [hle]
                  dsimp only
                  rw [HP.out.2, if_neg (fun h => hr2 h.2)]
                have HN := Lib.hid (hri ▸ HRN.out)
                have q1 : (q : Int) < (p : Int) := by omega
                have q2 : (w.length : Int) < (q : Int) := by omega
                clear hri hle
                go_wp2_with fail
                go_roundw
                case rel => exact ⟨n + 1, lv, mo, by omega, by go_num, rfl, HN, Lib.hid (by first | exact HLV3.out | exact HLV3.out.below (Below.refl _ _).drew), HH, Lib.hid (fun x => by have := HBN.out x; omega), Lib.hid (by first | exact HSP3.out | exact HSP3.out.drew)⟩
                case measure => simp [intOf]; omega
            · have hri : raise1 w.length (t, r) (lv, mo) ((T, Q), false) = (lv, mo) := by
                unfold raise1
                rw [hle]
                dsimp only
                rw [HP.out.2, if_neg (fun h => hr1 h.1)]
              have HN := Lib.hid (hri ▸ HRN.out)
              have q1 : (p : Int) ≤ (q : Int) := by omega
              clear hri hle
              go_wp2_with fail
              go_roundw
              case rel => exact ⟨n + 1, lv, mo, by omega, by go_num, rfl, HN, Lib.hid (by first | exact HLV3.out | exact HLV3.out.below (Below.refl _ _).drew), HH, Lib.hid (fun x => by have := HBN.out x; omega), Lib.hid (by first | exact HSP3.out | exact HSP3.out.drew)⟩
              case measure => simp [intOf]; omega
          · have hle : leastL lv ((T, Q), true) = p + 1 := by unfold leastL; rw [HP.out.1]; rfl
            by_cases hr1 : q < p + 1
            · by_cases hr2 : q ≤ w.length
              · have hri : raise1 w.length (t, r) (lv, mo) ((T, Q), true) = (lvS lv (t, r) (p + 1), true) := by
                  unfold raise1
                  rw [hle]
                  dsimp only
                  rw [HP.out.2, if_pos ⟨hr1, hr2⟩]
                have HN := Lib.hid (hri ▸ HRN.out)
                have q1 : (q : Int) < (p : Int) + 1 := by omega
                have q2 : (q : Int) ≤ (w.length : Int) := by omega
                have HLS := Lib.hid (HSET.out (p + 1))
                clear hri hle
                go_wp2_with fail
                go_roundw
                case rel =>
                  refine ⟨n + 1, lvS lv (t, r) (p + 1), true, by omega, by go_num, rfl, HN, ?_, Lib.hid ⟨⟨by rw [← HH.out.1.1]; simp [lvS], fun q hq => ⟨lvH_set (HH.out.1.2 q hq).1, fun d hd => lvH_set ((HH.out.1.2 q hq).2 d hd)⟩⟩, lvH_set HH.out.2.1, fun d hd => lvH_set (HH.out.2.2 d hd)⟩, Lib.hid (fun x => ?_), ?_⟩
                  · exact Lib.hid (by first | exact HLS.out | simpa using HLS.out)
                  · rw [lvG_set HH.out.2.1]
                    split
                    · omega
                    · have := HBN.out x; omega
                  · exact Lib.hid (by first | exact (HSP3.out.setCell hg2 r _) | exact (HSP3.out.drew.setCell hg2 r _) | exact (HSP3.out.setCell hg2 r _).drew)
                case measure => simp [intOf]; omega
              · have hri : raise1 w.length (t, r) (lv, mo) ((T, Q), true) = (lv, mo) := by
                  unfold raise1
                  rw [hle]
                  dsimp only
                  rw [HP.out.2, if_neg (fun h => hr2 h.2)]
                have HN := Lib.hid (hri ▸ HRN.out)
                have q1 : (q : Int) < (p : Int) + 1 := by omega
                have q2 : (w.length : Int) < (q : Int) := by omega
                clear hri hle
                go_wp2_with fail
                go_roundw
                case rel => exact ⟨n + 1, lv, mo, by omega, by go_num, rfl, HN, Lib.hid (by first | exact HLV3.out | exact HLV3.out.below (Below.refl _ _).drew), HH, Lib.hid (fun x => by have := HBN.out x; omega), Lib.hid (by first | exact HSP3.out | exact HSP3.out.drew)⟩
                case measure => simp [intOf]; omega
            · have hri : raise1 w.length (t, r) (lv, mo) ((T, Q), true) = (lv, mo) := by
                unfold raise1
                rw [hle]
                dsimp only
                rw [HP.out.2, if_neg (fun h => hr1 h.1)]
              have HN := Lib.hid (hri ▸ HRN.out)
              have q1 : (p : Int) + 1 ≤ (q : Int) := by omega
              clear hri hle
              go_wp2_with fail
              go_roundw
              case rel => exact ⟨n + 1, lv, mo, by omega, by go_num, rfl, HN, Lib.hid (by first | exact HLV3.out | exact HLV3.out.below (Below.refl _ _).drew), HH, Lib.hid (fun x => by have := HBN.out x; omega), Lib.hid (by first | exact HSP3.out | exact HSP3.out.drew)⟩
              case measure => simp [intOf]; omega
        · have HN : Hid (R = (w.drop (j + 1)).foldl (raiseR w.length) (lv, mo)) := Lib.hid (by rw [H.out, List.drop_of_length_le (l := ls) (i := n) (by omega)]; rfl)
          go_wp2_with fail
          go_roundw
          case rel => exact ⟨j + 1, lv, mo, by omega, by go_num, rfl, HN, HLV, Lib.hid HH.out.1, Lib.hid (fun x => by have := HBM.out x; omega), HSP⟩
          case measure => simp [intOf]; omega
    · have HN : Hid (R = (lv, mo)) := Lib.hid (by rw [H.out, List.drop_of_length_le (l := w) (i := j) (by omega)]; rfl)
      go_wp2_with fail
      go_ret
      rw [HN.out]
      exact ⟨rfl, HLV.out, HSP.out⟩
end Go.Proofs.YtdnhbledndgbcaaGreat
namespace Go.Proofs.YtdnhbledndgbcaaGreat
open Go.RowKit
theorem raise1_le {w : List Rw} {top M : Nat} {r : Rw} {c : Ln} {s : Lv2 × Bool} (hr : r ∈ w) (h : LvOk w s.1) (hM : ∀ y, lvG s.1 y ≤ M) : ∀ y, lvG (raise1 top r.1 s c).1 y ≤ M + 1 := by
  intro y
  unfold raise1
  split
  · rw [lvG_set (h.1 r hr).1]
    split
    · unfold leastL
      have := hM c.1
      split <;> omega
    · have := hM y; omega
  · have := hM y; omega
theorem raiseR_le {w : List Rw} {top : Nat} {r : Rw} (hr : r ∈ w) : ∀ (ls : List Ln) (s : Lv2 × Bool) (M : Nat), (∀ c ∈ ls, c ∈ r.2) → LvOk w s.1 → (∀ y, lvG s.1 y ≤ M) → ∀ y, lvG (ls.foldl (raise1 top r.1) s).1 y ≤ M + ls.length
  | [], _, _, _, _, hM => hM
  | c :: ls, s, M, hs, h, hM => fun y => by
    have := raiseR_le (top := top) hr ls (raise1 top r.1 s c) (M + 1) (fun d hd => hs d (List.mem_cons_of_mem _ hd)) (raise1_ok hr (hs c (List.mem_cons_self ..)) h) (raise1_le hr h hM) y
    rw [List.foldl_cons, List.length_cons]
    omega
theorem raised_le {w : List Rw} {top : Nat} : ∀ (rs : List Rw) (s : Lv2 × Bool) (M : Nat), (∀ r ∈ rs, r ∈ w) → LvOk w s.1 → (∀ y, lvG s.1 y ≤ M) → ∀ y, lvG (rs.foldl (raiseR top) s).1 y ≤ M + edges rs
  | [], _, _, _, _, hM => hM
  | r :: rs, s, M, hs, h, hM => fun y => by
    have hr := hs r (List.mem_cons_self ..)
    have := raised_le (top := top) rs (raiseR top s r) (M + r.2.length) (fun d hd => hs d (List.mem_cons_of_mem _ hd)) (raiseR_ok hr r.2 s (fun _ h => h) h) (raiseR_le hr r.2 s M (fun _ h => h) h hM) y
    rw [List.foldl_cons, edges]
    omega
theorem edges_le {K : Nat} : ∀ (w : List Rw), (∀ r ∈ w, r.2.length ≤ K) → edges w ≤ w.length * K
  | [], _ => Nat.zero_le _
  | r :: w, h => by
    have h1 := h r (List.mem_cons_self ..)
    have h2 := edges_le w (fun q hq => h q (List.mem_cons_of_mem _ hq))
    rw [edges, List.length_cons, Nat.succ_mul]
    omega
def GrAt (w : World) (F : Nat → Prop) (x : Nat × List Nat) (cs : List Value) : Prop := cs = [.slice (some ⟨x.1, 0, none⟩) x.2.length x.2.length] ∧ Blk w x.1 (x.2.map iv) 3 ∧ ¬ F x.1
theorem keeps_gr : Keeps GrAt := fun _ _ _ _ hs hG _ _ h => by
  obtain ⟨h1, h2, h3⟩ := h
  refine ⟨h1, hs.blk h2 h3, fun h => ?_⟩
  have := h2.lt
  rcases hG _ h with h | h
  · exact h3 h
  · omega
abbrev gsOf (ps : List ((Nat × List Nat) × List Value)) : List Nat := ps.map (fun p => p.1.1)
abbrev lvOf (ps : List ((Nat × List Nat) × List Value)) : Lv2 := ps.map (fun p => p.1.2)
theorem LvAt.of_own {w : World} {base g : Nat} {e : TypeId} {A : Option Addr} {n c : Nat} {ps : List ((Nat × List Nat) × List Value)} (h : RowOf GrAt w base e 1 g A n c ps) (hnd : (gsOf ps).Nodup) :
    LvAt w A (gsOf ps) (lvOf ps) ∧ ∀ b off, A = some ⟨b, off, none⟩ → base ≤ b := by
  obtain ⟨⟨hl, ho⟩, rfl, he⟩ := h
  have hB : ∀ i (h : i < (lvOf ps).length) (hg : i < (gsOf ps).length), Blk w (gsOf ps)[i] ((lvOf ps)[i].map iv) 3 := fun i h1 h2 => by
    rw [List.getElem_map, List.getElem_map]
    exact (he _ (List.getElem_mem (by simpa using h1))).2.2.1
  rcases ho with ⟨hv, h0⟩ | ⟨b, cap, cur, hv, hb, hh, hnc, _, hsz, htake⟩
  · have : ps = [] := List.length_eq_zero_iff.1 h0
    subst this
    refine ⟨⟨⟨rfl, hnd⟩, .inl rfl, hB⟩, fun b off hA => ?_⟩
    injection hv with hA' _ _
    rw [hA'] at hA
    cases hA
  · injection hv with hA _ _
    subst hA
    refine ⟨⟨⟨by simp, hnd⟩, .inr ⟨b, 0, rfl, ?_, fun hm => ?_, fun i h1 h2 => ?_⟩, hB⟩, fun b' off' hA => ?_⟩
    · rcases Nat.lt_or_ge b w.heap.size with hlt | hge
      · exact hlt
      · rw [Array.getElem?_eq_none hge] at hh; cases hh
    · obtain ⟨p, hp, hp2⟩ := List.mem_map.1 hm
      exact (he p hp).2.2.2 (.inr (.inr (by rw [hp2]; rfl)))
    · have hi : i < ps.length := by simpa using h1
      refine ⟨ps[i].1.2.length, ?_⟩
      have h3 := (he _ (List.getElem_mem hi)).2.1
      have h4 := pairs_at (s := 1) ps (fun p hp => (he p hp).1) i hi 0 (by decide)
      rw [Nat.mul_one, Nat.add_zero, h3] at h4
      have hlt : i < ps.length * 1 := by omega
      rw [Nat.zero_add, cell_of_row w b _ cur e (0, 0) hh, List.getElem_map, List.getElem_map]
      rw [← htake, List.getElem?_take, if_pos hlt] at h4
      simpa using h4
    · injection hA with hA
      injection hA with hA _ _
      omega
theorem LvAt.il {w : World} {F : Nat → Prop} {A : Option Addr} {gs : List Nat} {l : Lv2} (h : LvAt w A gs l) (hg : ∀ g ∈ gs, ¬ F g) (hA : ∀ b off, A = some ⟨b, off, none⟩ → ¬ F b) : IlAt w F A l := by
  obtain ⟨⟨hl, _⟩, h1, h2⟩ := h
  rcases h1 with h1 | ⟨b, off, hb, hlt, _, hc⟩
  · exact .inl h1
  · refine .inr ⟨b, off, hb, hlt, hA b off hb, fun j hj => ?_⟩
    have hj2 : j < gs.length := by omega
    obtain ⟨c, hc⟩ := hc j hj hj2
    have hB := h2 j hj hj2
    obtain ⟨A', c', e, hr⟩ := IrAt.of_blk (F := F) (c := c) hB (hg _ (List.getElem_mem hj2))
    refine ⟨[.slice (some ⟨gs[j], 0, none⟩) l[j].length c], ⟨A', c', e, hr⟩, fun i hi => ?_⟩
    obtain rfl : i = 0 := by omega
    rw [Nat.mul_one, Nat.add_zero]
    exact hc
def LvsAre (W : World) (s : Sc) (e : Ending) (w' : World) : Prop := ∃ A c, e = .returned (.slice A s.length c) ∧ IlAt w' (fun k => k < W.heap.size) A (levS s) ∧ Below W.heap.size W w'
set_option maxRecDepth 100000 in
set_option maxHeartbeats 4000000 in
theorem rlevels_any (s : Sc) (A : Option Addr) (c : Nat) (hk : RwOk s) (F : Nat → Prop) (W : World) (hs : ScAt W F A s) :
    Calls Tryz.prog 16 #[.agg #[.slice A s.length c]] W (LvsAre W s) := by
  obtain ⟨W1, hW⟩ : ∃ W1, W1 = W.alloc (.cells #[.slice A s.length c] 24) := ⟨_, rfl⟩
  have HKA : Hid (Blk W1 W.heap.size [.slice A s.length c] 24) := by rw [hW]; exact Lib.hid (Blk.new W _ _)
  have HB0 : Hid (Below W.heap.size W W1) := by rw [hW]; exact Lib.hid ((Below.refl _ _).alloc (Nat.le_refl _) _)
  have HZ1 : Hid (W1.heap.size = W.heap.size + 1) := by rw [hW]; exact Lib.hid (by simp)
  have HW := Lib.hid hW
  have HX : Hid (∀ w, Below W1.heap.size W1 w → w.cell? ⟨W.heap.size, 0, none⟩ = some (.slice A s.length c)) := Lib.hid (fun w hw => (HKA.out.below hw HKA.out.lt).cell (i := 0) (by simp))
  have HF : Hid (∀ w, Below W1.heap.size W1 w → Below W.heap.size W w) := Lib.hid (fun w hw => HB0.out.trans (hw.mono HB0.out.size))
  have HS : Hid (∀ w, Below W1.heap.size W1 w → ScAt w F A s) := Lib.hid (fun w hw => hs.below (HF.out w hw))
  have HR : Hid (RowAt 2 TyAt W F A s) := Lib.hid hs
  have HKO := Lib.hid hk
  obtain ⟨i0, z0, hRW⟩ := rowNs
  have HRW := Lib.hid hRW
  have hs16 := hk.len
  clear hW hs hk hRW
  go_enter Tryz.func16, Tryz.ntmps16
  go_wp2_with fail
  rw [← HW.out]
  go_loopw [3, 4] (fun v i wr => ∃ (j : Nat) (ps : List ((Nat × List Nat) × List Value)) (A2 : Option Addr) (c2 : Nat), j ≤ s.length ∧ i = .int .i64 j ∧ v = .slice A2 j c2 ∧ Hid (lvOf ps = zeroL (s.take j)) ∧ Hid ((gsOf ps).Nodup ∧ ∀ g ∈ gsOf ps, W1.heap.size ≤ g ∧ g < wr.heap.size) ∧ Hid (RowOf GrAt wr W1.heap.size 50 1 W.heap.size A2 j c2 ps) ∧ Hid (Below W1.heap.size W1 wr)) (fun _ i _ => s.length - (intOf i).toNat)
  case atStart => exact ⟨0, [], none, 0, by omega, rfl, rfl, Lib.hid rfl, Lib.hid ⟨List.nodup_nil, fun g hg => by cases hg⟩, Lib.hid (RowOf.nil _ _ _ _ _), Lib.hid (Below.refl _ _)⟩
  case round =>
    obtain ⟨j, ps, A2, c2, hj, rfl, rfl, H, HG, HRO, BW⟩ := hrel
    have x0 := HX.out wr BW.out
    by_cases hlt : j < s.length
    · have hr16 := HKO.out.rels _ (List.getElem_mem hlt)
      have HZ : Hid (zeroL (s.take (j + 1)) = zeroL (s.take j) ++ [List.replicate s[j].rels.length 0]) := Lib.hid (by unfold zeroL; rw [List.take_succ_eq_append_getElem hlt, List.map_append]; rfl)
      obtain ⟨b, off, B, d, rfl, ⟨_, hrl⟩, hr, hc⟩ := HR.out.ty hlt
      have z1 := (hc wr (HF.out wr BW.out)).2
      clear hc hr
      generalize s[j].rels.length = q at *
      obtain ⟨w4, hw4⟩ : ∃ w4, w4 = wr.alloc (.cells (List.replicate q (nv 0)).toArray 3) := ⟨_, rfl⟩
      have hmk : (Instr.makeSlice 50 (.int .i64 (q : Int)) (.int .i64 (q : Int))).run Tryz.prog wr = .ok (.slice (some ⟨wr.heap.size, 0, none⟩) q q) w4 := by
        rw [hw4, row_make q (by omega)]
      have hb4 : Below wr.heap.size wr w4 := by rw [hw4]; exact (Below.refl _ _).alloc (Nat.le_refl _) _
      have hz4 : w4.heap.size = wr.heap.size + 1 := by rw [hw4]; simp
      have hk4 : Blk w4 wr.heap.size ((List.replicate q 0).map iv) 3 := by
        rw [List.map_replicate, hw4]; exact Blk.new _ _ _
      have HB4 := Lib.hid (hop BW.out hb4)
      have HK4 := Lib.hid hk4
      have HZ4 := Lib.hid hz4
      have HRO4 : Hid (RowOf GrAt w4 W1.heap.size 50 1 W.heap.size A2 j c2 ps) := Lib.hid (HRO.out.spared keeps_gr (by have := HZ1.out; omega) (Spared.of_below hb4 _))
      have HOB := Lib.hid (own_lt HRO.out.own)
      have hj6 : j ≤ 1000000 := by omega
      clear hw4 hb4 hk4 hz4
      go_wp2_with (at_builtin; refine wpList_append_struct w4 rfl (.tmp 15) (.tmp 24) 27 rfl HRW.out (by decide) (by decide) W1 A2 j c2 _ [.slice (some ⟨wr.heap.size, 0, none⟩) q q] rfl rfl (by simp [Act.eval]) HB4.out HRO4.out.own (fun u hu => by rw [List.mem_singleton.1 hu]; rfl) hj6 ?_)
      intro A' c' w' hown hbel hg hat
      have hx : GrAt w4 (offR W.heap.size W1.heap.size (.slice A2 j c2)) (wr.heap.size, List.replicate q 0) [.slice (some ⟨wr.heap.size, 0, none⟩) q q] := ⟨by simp, HK4.out, fun hf => by
        have h1 := HZ1.out
        have h2 := BW.out.size
        rcases hf with hf | hf | hf
        · dsimp only at hf; omega
        · dsimp only at hf; omega
        · have := HOB.out _ hf.symm
          dsimp only at this
          omega⟩
      have HP : Hid (RowOf GrAt w' W1.heap.size 50 1 W.heap.size A' (j + 1) c' (ps ++ [((wr.heap.size, List.replicate q 0), [.slice (some ⟨wr.heap.size, 0, none⟩) q q])])) := Lib.hid (HRO4.out.push keeps_gr rfl hx hown hg hat)
      have hsz : w4.heap.size ≤ w'.heap.size := by
        have := hg.size
        rw [World.size_alloc] at this
        omega
      have HGN : Hid ((gsOf (ps ++ [((wr.heap.size, List.replicate q 0), [Value.slice (some ⟨wr.heap.size, 0, none⟩) q q])])).Nodup ∧ ∀ g ∈ gsOf (ps ++ [((wr.heap.size, List.replicate q 0), [Value.slice (some ⟨wr.heap.size, 0, none⟩) q q])]), W1.heap.size ≤ g ∧ g < w'.heap.size) := Lib.hid (by
        have h1 := HZ4.out
        have h2 := BW.out.size
        unfold gsOf
        rw [List.map_append]
        refine ⟨List.nodup_append.2 ⟨HG.out.1, by simp, fun a ha b hb => ?_⟩, fun g hg => ?_⟩
        · have := (HG.out.2 a ha).2
          simp at hb
          omega
        · rcases List.mem_append.1 hg with hg | hg
          · have := HG.out.2 g hg
            omega
          · simp at hg
            omega)
      have HBE := Lib.hid hbel
      clear hown hbel hg hat hx hsz
      go_wp2_with fail
      go_roundw
      case rel => exact ⟨j + 1, _, A', c', by omega, by go_num, rfl, Lib.hid (by have h1 := H.out; unfold lvOf at h1 ⊢; rw [List.map_append, h1, HZ.out]; rfl), HGN, HP, HBE⟩
      case measure => simp [intOf]; omega
    · have hjl : j = s.length := by omega
      have HL : Hid (lvOf ps = zeroL s) := Lib.hid (by rw [H.out, List.take_of_length_le (by omega)])
      obtain ⟨hla, hAb⟩ := LvAt.of_own HRO.out HG.out.1
      obtain ⟨gs, hgs⟩ : ∃ gs, gs = gsOf ps := ⟨_, rfl⟩
      rw [HL.out, ← hgs] at hla
      have HLA := Lib.hid hla
      have HAB := Lib.hid hAb
      have HGS : Hid (∀ g ∈ gs, W1.heap.size ≤ g ∧ g < wr.heap.size) := Lib.hid (by rw [hgs]; exact HG.out.2)
      have HROW := Lib.hid (rrows_any s A c HKO.out F wr (HS.out wr BW.out))
      have HJ := Lib.hid hjl
      obtain ⟨WW, hWW⟩ : ∃ WW, WW = rowsN s := ⟨_, rfl⟩
      have HWL : Hid (WW.length ≤ 256 ∧ edges WW ≤ 256000000) := Lib.hid (by
        have h1 : WW.length = manyN s := by rw [hWW]; exact rowsT_len s 0
        have h2 := manyN_le s HKO.out.rels
        have h3 := HKO.out.len
        have h4 : edges WW ≤ WW.length * 1000000 := edges_le WW (fun r hr => by
          rw [hWW] at hr
          obtain ⟨i, hi, k, hk, rfl⟩ := rowsN_mem.1 hr
          exact HKO.out.few i hi k hk)
        refine ⟨by omega, ?_⟩
        have h5 : WW.length ≤ 256 := by omega
        have := Nat.mul_le_mul_right 1000000 h5
        omega)
      have HOK : Hid (LvOk WW (zeroL s)) := Lib.hid (by rw [hWW]; exact zeroL_ok HKO.out.ok)
      have HLV : Hid (levS s = levN WW 70000 (zeroL s)) := Lib.hid (by rw [hWW]; rfl)
      have HZL : Hid ((zeroL s).length = s.length) := Lib.hid (by unfold zeroL; rw [List.length_map])
      have HZZ : Hid (∀ y, lvG (zeroL s) y ≤ 0) := Lib.hid (fun y => by rw [zeroL_zero]; exact Nat.le_refl _)
      rw [← hWW] at HROW
      generalize zeroL s = l0 at *
      clear hla hAb hgs H HRO HL HG hWW
      subst hjl
      clear hlt hj
      go_wp2_with (go_at_call 34; (with_reducible refine HROW.out.mono ?_); rintro r w3 ⟨A3, c3, rfl, hw3, hb3⟩; have HW3 := Lib.hid hw3; have HB3 := Lib.hid hb3; clear hw3 hb3)
      have HLA3 := Lib.hid (HLA.out.below HB3.out)
      have HRW3 : Hid (RowAt 3 RwAt w3 (inG gs) A3 WW) := Lib.hid (HW3.out.moved (Spared.refl _ _) (fun i hi => .inl (HGS.out i hi).2) (fun _ _ _ h => h.moved (Spared.refl _ _) (fun i hi => .inl (HGS.out i hi).2)))
      clear x0 HW3 HLA
      go_loopw [6] (fun i wq => ∃ (n : Nat) (lv : Lv2), n ≤ 70000 ∧ i = .int .i64 n ∧ Hid (levS s = levN WW (70000 - n) lv) ∧ Hid (LvAt wq A2 gs lv) ∧ Hid (lv.length = s.length) ∧ Hid (LvOk WW lv ∧ ∀ y, lvG lv y ≤ n * 256000000) ∧ Hid (Spared w3 wq (inG gs))) (fun i _ => 70000 - (intOf i).toNat)
      case atStart => exact ⟨0, l0, by omega, rfl, HLV, HLA3, HZL, Lib.hid ⟨HOK.out, fun y => by have := HZZ.out y; omega⟩, Lib.hid (Spared.refl _ _)⟩
      case round =>
        rename World => wq
        clear HLV HLA3 HZL HOK HZZ
        obtain ⟨n, lv, hn, rfl, HLV, HLA, HLN, HOK, HSP⟩ := hrel
        by_cases hnl : n < 70000
        · have HC := Lib.hid (raised_any WW lv wq A3 A2 c3 c2 gs (HRW3.out.moved HSP.out (fun _ h => .inl h) (fun _ _ _ h => h.moved HSP.out (fun _ h => .inl h))) HLA.out HOK.out.1.1 (by have := HWL.out.1; omega) (by have := HLN.out; omega) (fun x => by
            have h1 := HOK.out.2 x
            have h2 := HWL.out.2
            have h3 : n * 256000000 ≤ 70000 * 256000000 := Nat.mul_le_mul_right _ hn
            omega))
          rw [HLN.out] at HC
          have HST : Hid (levS s = if (raisedL WW lv).2 then levN WW (70000 - (n + 1)) (raisedL WW lv).1 else (raisedL WW lv).1) := Lib.hid (by
            rw [HLV.out]
            obtain ⟨m, hm⟩ : ∃ m, 70000 - n = m + 1 := ⟨70000 - n - 1, by omega⟩
            rw [hm, levN, show 70000 - (n + 1) = m by omega])
          have HLN2 : Hid ((raisedL WW lv).1.length = s.length) := Lib.hid (by
            have h1 := congrArg List.length (raised_len WW.length WW (lv, false))
            simp only [List.length_map] at h1
            rw [← HLN.out]
            exact h1)
          have HOK2 : Hid (LvOk WW (raisedL WW lv).1 ∧ ∀ y, lvG (raisedL WW lv).1 y ≤ (n + 1) * 256000000) := Lib.hid ⟨raised_ok WW (lv, false) (fun _ h => h) HOK.out.1, fun y => by
            have h1 := raised_le (top := WW.length) WW (lv, false) (n * 256000000) (fun _ h => h) HOK.out.1 HOK.out.2 y
            have h2 := HWL.out.2
            have h3 : lvG (raisedL WW lv).1 y ≤ n * 256000000 + edges WW := h1
            omega⟩
          generalize raisedL WW lv = R at *
          obtain ⟨l2, mo⟩ := R
          dsimp only at HC HST HLN2 HOK2
          clear HLV HOK HLN
          have hn1 : (n : Int) < 70000 := by omega
          cases mo
          · have HE : Hid (levS s = l2) := Lib.hid HST.out
            go_wp2_with (go_at_call 35; (with_reducible refine HC.out.mono ?_); rintro r w5 ⟨rfl, hl5, hs5⟩; have HL5 := Lib.hid hl5; have HS5 := Lib.hid hs5; clear hl5 hs5)
            go_ret
            refine ⟨A2, c2, rfl, ?_, ?_⟩
            · rw [HE.out]
              exact HL5.out.il (fun g hg => by have := (HGS.out g hg).1; have := HZ1.out; omega) (fun b off hA => by have := HAB.out b off hA; have := HZ1.out; omega)
            · have h1 := HSP.out.trans HS5.out (fun _ h => .inl h)
              exact h1.below (HF.out _ (BW.out.trans (HB3.out.mono BW.out.size))) (fun i hi => by have := (HGS.out i hi).1; have := HZ1.out; omega)
          · have HE : Hid (levS s = levN WW (70000 - (n + 1)) l2) := Lib.hid HST.out
            go_wp2_with (go_at_call 35; (with_reducible refine HC.out.mono ?_); rintro r w5 ⟨rfl, hl5, hs5⟩; have HL5 := Lib.hid hl5; have HS5 := Lib.hid hs5; clear hl5 hs5)
            go_roundw
            case rel => exact ⟨n + 1, l2, by omega, by go_num, HE, HL5, HLN2, HOK2, Lib.hid (HSP.out.trans HS5.out (fun _ h => .inl h))⟩
            case measure => simp [intOf]; omega
        · have HE : Hid (levS s = lv) := Lib.hid (by rw [HLV.out, show 70000 - n = 0 by omega]; rfl)
          have hn1 : ¬ ((n : Int) < 70000) := by omega
          go_wp2_with fail
          go_ret
          refine ⟨A2, c2, rfl, ?_, ?_⟩
          · rw [HE.out]
            exact HLA.out.il (fun g hg => by have := (HGS.out g hg).1; have := HZ1.out; omega) (fun b off hA => by have := HAB.out b off hA; have := HZ1.out; omega)
          · exact HSP.out.below (HF.out _ (BW.out.trans (HB3.out.mono BW.out.size))) (fun i hi => by have := (HGS.out i hi).1; have := HZ1.out; omega)
end Go.Proofs.YtdnhbledndgbcaaGreat
