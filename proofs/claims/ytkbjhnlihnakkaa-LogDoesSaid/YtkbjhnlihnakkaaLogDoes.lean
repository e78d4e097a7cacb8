/-
  The statement LogDoes: on a disk of any image, any calls are answered as the document says; the disk keeps just what it says. Condition: the row's own.
-/
import Derived.Test.YtkbjhnlihnakkaaLgTwo
import Derived.Test.YtkbjhnlihnakkaaLgAwake
import Derived.Test.YtkbjhnlihnakkaaAppTo
import Derived.Deep.RegionHeldLaw
import Derived.Deep.Cut
import Derived.Deep.CutRange
import Derived.Deep.CutBlock
namespace Go.Proofs.Ytkbjhnlihnakkaa
open Go.RowKit

theorem two_start {w w2 w3 : World} {g r : Nat} {s : Dsk} {F G : Nat → Prop} (hb : Below w.heap.size w w2) (hd : DiskAt w2 g F s) (hF : ∀ k, F k → w.heap.size ≤ k) (hr : RefAt w3 r G s) (hG : ∀ k, G k → w2.heap.size ≤ k) (hb3 : Below w2.heap.size w2 w3) : Two w g r s s [] w3 :=
  ⟨F, G, hd.still hb3, hr, hF, fun q hq => Nat.le_trans hb.size (hG q hq), fun q hf hg => by have := hd.lt q hf; have := hG q hg; omega, hop hb hb3, fun p hp => by cases hp⟩
/-- where the loop stands -/
def DoesAt (w : World) (g r : Nat) (s : Dsk) (lo : Option Lg) (b c k : Nat) (wr : World) : Prop :=
  (∀ l, lo = some l → b ≠ c ∧ l.Fits s) ∧ s.Few (1100 * k) ∧ Two w g r s s (lx g 74 lo b ++ lx r 80 lo c) wr
theorem DoesAt.still {w wr w' : World} {g r : Nat} {s : Dsk} {lo : Option Lg} {b c k : Nat} (h : DoesAt w g r s lo b c k wr) (hb : Below wr.heap.size wr w') : DoesAt w g r s lo b c k w' := ⟨h.1, h.2.1, h.2.2.still hb⟩
theorem Lg.Fits.same {l : Lg} {s s' : Dsk} (h : l.Fits s) (hK : s'.K.length = s.K.length) : l.Fits s' := ⟨h.pos, by rw [hK]; exact h.area, h.fin, h.seq, h.gen1, h.gen2⟩
theorem does_alike {w wr : World} {g r : Nat} {s : Dsk} {lo : Option Lg} {b c k : Nat} (h : DoesAt w g r s lo b c k wr) : Calls Try.prog 23 #[lp lo b, lp lo c] wr fun e w' => e = .returned (.bool true) ∧ Below wr.heap.size wr w' := by
  rcases lo with _ | l
  · refine (alike_none wr).mono ?_
    rintro e w' ⟨he, rfl⟩
    exact ⟨he, Below.refl _ _⟩
  · have hf := (h.1 l rfl).2
    have hK := h.2.2.ok.hi
    exact alike_any wr g b r c l (h.2.2.box (x := (b, lgCells g l, 74)) (List.Mem.head _)) (h.2.2.box (x := (c, lgCells r l, 80)) (List.Mem.tail _ (List.Mem.head _))) hf.fin (by have := hf.area; omega)
theorem two_swap {w wr : World} {g r : Nat} {s t : Dsk} {xs ys zs : List Box} (h : Two w g r s t (xs ++ (ys ++ zs)) wr) : Two w g r s t (ys ++ xs) wr :=
  h.keep fun _ hy => (List.mem_append.1 hy).elim (fun h => List.mem_append_right _ (List.mem_append_left _ h)) (fun h => List.mem_append_left _ h)
theorem begun_apart {w w6 : World} {g r b c : Nat} {s t : Dsk} {lo : Option Lg} {T : TypeId} {xs : List Box} (h : Two w g r s t (lx g T lo b ++ xs) w6) (hc : w6.heap.size ≤ c) : ∀ l, lo = some l → b ≠ c := fun l hl e => by
  subst hl
  have := (h.box (x := (b, lgCells g l, T)) (List.Mem.head _)).lt
  change b < w6.heap.size at this
  omega

set_option maxRecDepth 100000 in
set_option maxHeartbeats 20000000 in
theorem logDoes_walk (A : Option Addr) (img : List UInt8) (ci : Nat) (B : Option Addr) (l : List QOp) (co : Nat) (w : World) (hi : img.length ≤ 140737488351232) (hs : Seen w A img) (hl : l.length ≤ 9223372036854775807) (hq : QsSeen w B l) :
    Calls Try.prog 3 #[.slice A img.length ci, .slice B l.length co] w fun e w' => e = .returned (.bool true) ∧ Below w.heap.size w w' := by
  have HS := Lib.hid hs
  have HQ := Lib.hid hq
  obtain ⟨n, hn⟩ : ∃ n, n = l.length := ⟨_, rfl⟩
  have HN := Lib.hid hn
  rw [← hn] at hl ⊢
  obtain ⟨ni, hni⟩ : ∃ n, n = img.length := ⟨_, rfl⟩
  have HNI : Hid (img.length = ni) := hni.symm
  rw [← hni] at hi ⊢
  have HFEW := Lib.hid (fun w' (hb : Below w.heap.size w w') => few_any B l n co w' (by
    rcases hq with h | ⟨b, off, e, h1, h2⟩
    · exact .inl h
    · refine .inr ⟨b, off, e, Nat.lt_of_lt_of_le h1 hb.size, fun j hj => ⟨fun i hi => (hb.cell (p := ⟨b, off + j * 6 + i, none⟩) h1).trans ((h2 j hj).1 i hi), ?_⟩⟩
      obtain ⟨k1, ⟨k2, k3⟩, k4, k5⟩ := (h2 j hj).2
      exact ⟨k1, ⟨k2.below hb, k3⟩, k4.below hb, k5⟩) hn.symm hl)
  clear hs hq hn hni
  obtain ⟨i0, hi0, hz0, hz1, hz2⟩ := info_parts info8p
  go_enter Try.func3, Try.ntmps3
  go_wp2_with fail
  refine (awake_any _).mono ?_
  rintro e w1 ⟨rfl, hb1⟩
  have B1 := Lib.hid hb1
  clear hb1
  go_wp2_with fail
  refine (HFEW.out _ B1.out).mono ?_
  rintro e w2 ⟨rfl, hw⟩
  obtain rfl := hw
  obtain ⟨fb, hfb⟩ : ∃ fb, fb = fewB l := ⟨_, rfl⟩
  rw [← hfb]
  have HFB := Lib.hid hfb
  clear hfb HFEW
  by_cases hf : fb = false
  · subst hf
    go_wp2_with fail
    go_ret
    exact ⟨rfl, B1.out⟩
  have hf' : fb = true := by simpa using hf
  subst hf'
  clear hf
  have HSM : Hid (l.length ≤ 60 ∧ ∀ o ∈ l, o.2.2.2.2.1.2.1.length ≤ 2000) := of_decide_eq_true (p := l.length ≤ 60 ∧ ∀ o ∈ l, o.2.2.2.2.1.2.1.length ≤ 2000) HFB.out.symm
  have hn60 : n ≤ 60 := by have := HSM.out.1; have := HN.out; omega
  go_wp2_with (at_builtin; refine wpList_append_to _ rfl (.const (.slice none 0 0)) (.tmp 37) 22 rfl 5 i0 (.int .u8 0) Try.underlying22 hi0 hz0 hz1 hz2 rfl w none 0 0 [] A ni ci img img ni rfl rfl (madeN_start B1.out) (Lib.hid (HS.out.below B1.out)) HNI (Lib.hid rfl) (Lib.hid (Nat.zero_add ni).symm) (by omega) ?_)
  intro A2 c2 w2 hm2 hb2
  have HM2 := Lib.hid hm2.out
  clear hm2 hb2
  go_upto_region 6 with fail
  obtain ⟨bad, hbad⟩ : ∃ b : Bool, b = decide (¬ (ni % 64 = 0 ∧ ni ≠ 0 ∧ ni ≤ 3840)) := ⟨_, rfl⟩
  have HBAD := Lib.hid hbad
  clear hbad
  go_cut [52] from 27 (fun v wx => v = .bool bad ∧ wx = w2)
  case first =>
    by_cases h1 : ni % 64 = 0
    · have d1 : (ni : Int) % 64 = 0 := by omega
      by_cases h2 : ni = 0
      · have HE := Lib.hid (HBAD.out.trans (decide_eq_true (fun h => h.2.1 h2)))
        have d2 : ((ni : Int) == 0) = true := by rw [h2]; rfl
        clear h1 h2
        go_wp2
        go_meet
        exact ⟨congrArg Value.bool HE.out.symm, rfl⟩
      · have d2 : ((ni : Int) == 0) = false := by rw [beq_eq_false_iff_ne]; omega
        by_cases h3 : ni ≤ 3840
        · have HE := Lib.hid (HBAD.out.trans (decide_eq_false (fun h => h ⟨h1, h2, h3⟩)))
          have d3 : ¬ (3840 : Int) < (ni : Int) := by omega
          clear h1 h2 h3
          go_wp2
          go_meet
          exact ⟨congrArg Value.bool HE.out.symm, rfl⟩
        · have HE := Lib.hid (HBAD.out.trans (decide_eq_true (fun h => h3 h.2.2)))
          have d3 : (3840 : Int) < (ni : Int) := by omega
          clear h1 h2 h3
          go_wp2
          go_meet
          exact ⟨congrArg Value.bool HE.out.symm, rfl⟩
    · have HE := Lib.hid (HBAD.out.trans (decide_eq_true (fun h => h1 h.1)))
      have d1 : ¬ (ni : Int) % 64 = 0 := by omega
      clear h1
      go_wp2
      go_meet
      exact ⟨congrArg Value.bool HE.out.symm, rfl⟩
  case rest =>
  obtain ⟨rfl, rfl⟩ := hcut
  go_upto_if 52 with fail
  go_cut [7] from 27 (fun v wx => ∃ D m A' c', v = .slice A' (m * 64) c' ∧ 1 ≤ m ∧ m ≤ 60 ∧ MadeN 5 w D A' (m * 64) c' wx)
  case first =>
    by_cases hb : bad = true
    · subst hb
      have hmk : ∀ W, (Instr.makeSlice 22 (.int .i64 768) (.int .i64 768)).run Try.prog W = .ok (.slice (some ⟨W.heap.size, 0, none⟩) 768 768) (W.alloc (.cells ((List.replicate 768 (0 : UInt8)).map bv).toArray 5)) := make_noughts 768 (by decide)
      have HZ : Hid (MadeN 5 w (List.replicate 768 0) (some ⟨wc.heap.size, 0, none⟩) (12 * 64) (12 * 64) (wc.alloc (.cells ((List.replicate 768 (0 : UInt8)).map bv).toArray 5))) :=
        ⟨by simp, made_of_blk (Blk.new wc _ _) HM2.out.2.2.size (HM2.out.2.2.alloc HM2.out.2.2.size _) (by simp) (by decide)⟩
      generalize (List.replicate 768 (0 : UInt8)) = Z at hmk HZ
      go_wp2
      go_meet
      exact ⟨Z, 12, _, _, rfl, by decide, by decide, HZ.out⟩
    · have hb' : bad = false := by simpa using hb
      have hgood : ni % 64 = 0 ∧ ni ≠ 0 ∧ ni ≤ 3840 := by
        have := of_decide_eq_false (HBAD.out.symm.trans hb')
        exact Decidable.byContradiction this
      have e : ni = ni / 64 * 64 := by omega
      have HM3 : Hid (MadeN 5 w img A2 (ni / 64 * 64) c2 wc) := by show MadeN _ _ _ _ _ _ _; rw [← e]; exact HM2.out
      have h1 : 1 ≤ ni / 64 := by omega
      have h2 : ni / 64 ≤ 60 := by omega
      have HE := Lib.hid e
      subst hb'
      clear hgood hb e
      go_wp2
      go_meet
      exact ⟨img, ni / 64, A2, c2, by rw [← HE.out], h1, h2, HM3.out⟩
  case rest =>
  clear HM2 HBAD HS HNI hi
  obtain ⟨D, m, A3, c3, rfl, hm1, hm60, hm3⟩ := hcut
  have HM3 := Lib.hid hm3
  have HOF : Hid (Calls Try.prog 10 #[.slice A3 (m * 64) c3] wc fun e w' => ∃ g F, e = .returned (.tuple #[.pointer (some ⟨g, 0, none⟩), .int .i64 0]) ∧ DiskAt w' g F (rowsDsk (rowsOf D)) ∧ (∀ k, F k → wc.heap.size ≤ k) ∧ Below wc.heap.size wc w') := by
    have hc : D.length ≤ c3 := cap_of HM3.out.2
    have := of_any wc A3 D c3 m HM3.out.1 hc HM3.out.seen hm1 (by omega)
    rw [HM3.out.1] at this
    refine this.mono ?_
    rintro e w' ⟨s, ho, g, F, h1, h2, h3, h4⟩
    obtain rfl := of_rows ho HM3.out.1
    exact ⟨g, F, h1, h2, h3, h4⟩
  have HREF : Hid (∀ w', Below wc.heap.size wc w' → Calls Try.prog 11 #[.slice A3 (m * 64) c3] w' (RFresh w' (rowsDsk (rowsOf D)))) := fun w' hb => by
    have hc : D.length ≤ c3 := cap_of HM3.out.2
    rw [HM3.out.1] at hc
    exact refOf_any w' A3 D (m * 64) c3 m HM3.out.1 rfl hc (by omega) (HM3.out.seen.below hb)
  have BC := Lib.hid HM3.out.2.2
  generalize hS0 : rowsDsk (rowsOf D) = s0 at HOF HREF
  have HF0 : Hid (s0.Few 0) := by rw [← hS0]; exact ⟨Nat.le_refl _, Nat.le_refl _, by show 0 < _; decide⟩
  clear hm3 hS0 HM3
  go_wp2_with fail
  refine HOF.out.mono ?_
  rintro e w3 ⟨g, F, rfl, hd, hF, hb⟩
  have D3 := Lib.hid hd
  have HFL : Hid (∀ k, F k → w.heap.size ≤ k) := fun k hk => Nat.le_trans BC.out.size (hF k hk)
  have BB := Lib.hid hb
  clear hd hF hb HOF
  go_wp2_with fail
  refine (HREF.out _ BB.out).mono ?_
  rintro e w4 ⟨r, G, rfl, hd, hG, hb⟩
  have P4 := Lib.hid (two_start (hop BC.out BB.out) D3.out HFL.out hd hG hb)
  clear hd hG hb HREF D3 HFL BB BC
  go_wp2_with fail
  go_loopw [11, 12, 13] (fun v x a wr => ∃ k s lo b c, k ≤ n ∧ a = .int .i64 ((k : Nat) : Int) ∧ v = lp lo b ∧ x = lp lo c ∧ DoesAt w g r s lo b c k wr) (fun _ _ a _ => n - (intOf a).toNat)
  case atStart => exact ⟨0, s0, none, 0, 0, Nat.zero_le _, rfl, rfl, rfl, (fun l h => by cases h), HF0.out, P4.out⟩
  case round =>
  clear P4 HF0
  obtain ⟨k, s, lo, b, c, hk, rfl, rfl, rfl, hp⟩ := hrel
  have PP := Lib.hid hp
  clear hp
  by_cases hge : ¬ k < n
  · obtain rfl : k = n := by omega
    have hkl : ¬ (k : Int) < (k : Int) := by omega
    go_wp2_with fail
    go_ret
    exact ⟨rfl, PP.out.2.2.below⟩
  have hlt : k < n := by omega
  clear hge
  have hkl : (k : Int) < (n : Int) := by omega
  have hkn : k < l.length := by have := HN.out; omega
  obtain ⟨ba, oa, rfl, hok, hc⟩ := HQ.out.at_ k hkn
  obtain ⟨o0, o1, o2, o3, o4, o5⟩ := hc wr PP.out.2.2.below
  have HOK := Lib.hid hok
  have hbig := HSM.out.2 _ (List.getElem_mem hkn)
  clear hc hok
  generalize l[k] = o at *
  clear hkn
  obtain ⟨z, f, N, gen, ⟨A1, d, c1⟩, A5, pk, c5⟩ := o
  change wr.cell? ⟨ba, oa + k * 6, none⟩ = some (.int .i64 z) at o0
  change wr.cell? ⟨ba, oa + k * 6 + 1, none⟩ = some (.int .i64 f) at o1
  change wr.cell? ⟨ba, oa + k * 6 + 2, none⟩ = some (.int .i64 N) at o2
  change wr.cell? ⟨ba, oa + k * 6 + 3, none⟩ = some (.int .i64 gen) at o3
  change wr.cell? ⟨ba, oa + k * 6 + 4, none⟩ = some (.slice A1 d.length c1) at o4
  change wr.cell? ⟨ba, oa + k * 6 + 5, none⟩ = some (.slice A5 pk.length c5) at o5
  obtain ⟨n1, hn1⟩ : ∃ n1, n1 = d.length := ⟨_, rfl⟩
  obtain ⟨n2, hn2⟩ : ∃ n2, n2 = pk.length := ⟨_, rfl⟩
  rw [← hn1] at o4
  rw [← hn2] at o5
  have HN1 : Hid (d.length = n1) := hn1.symm
  have HN2 : Hid (pk.length = n2) := hn2.symm
  have hn1b : n1 ≤ 2000 := by rw [hn1]; exact hbig
  clear hn1 hn2 hbig
  obtain ⟨bo, hbo⟩ : ∃ bo, bo = wr.heap.size := ⟨_, rfl⟩
  obtain ⟨w5, hw5⟩ : ∃ w5, w5 = wr.alloc (.cells #[.int .i64 z, .int .i64 f, .int .i64 N, .int .i64 gen, .slice A1 n1 c1, .slice A5 n2 c5] 36) := ⟨_, rfl⟩
  obtain ⟨x5, hx5⟩ : ∃ x : Box, x = (bo, [.int .i64 z, .int .i64 f, .int .i64 N, .int .i64 gen, .slice A1 n1 c1, .slice A5 n2 c5], 36) := ⟨_, rfl⟩
  have P5 : Hid (Two w g r s s (x5 :: (lx g 74 lo b ++ lx r 80 lo c)) w5) := by
    show Two _ _ _ _ _ _ _
    rw [hw5, hx5, hbo]; exact PP.out.2.2.holds _ _
  have HW5 : Hid (wr.alloc (.cells #[.int .i64 z, .int .i64 f, .int .i64 N, .int .i64 gen, .slice A1 n1 c1, .slice A5 n2 c5] 36) = w5) := hw5.symm
  have HX : Hid (∀ W (s t : Dsk) (xs : List Box), x5 ∈ xs → Two w g r s t xs W → W.cell? ⟨bo, 1, none⟩ = some (.int .i64 f) ∧ W.cell? ⟨bo, 2, none⟩ = some (.int .i64 N) ∧ W.cell? ⟨bo, 3, none⟩ = some (.int .i64 gen) ∧ W.cell? ⟨bo, 4, none⟩ = some (.slice A1 n1 c1) ∧ W.cell? ⟨bo, 5, none⟩ = some (.slice A5 n2 c5)) := fun W s t xs hm h => by
    have hb := h.box hm
    rw [hx5] at hb
    exact ⟨hb.cell (i := 1) (by simp), hb.cell (i := 2) (by simp), hb.cell (i := 3) (by simp), hb.cell (i := 4) (by simp), hb.cell (i := 5) (by simp)⟩
  have HNX : Hid (∀ x ∈ (lx g 74 lo b ++ lx r 80 lo c), x.1 ≠ x5.1) := fun x hx e => by
    have := (PP.out.2.2.box hx).lt
    rw [e, hx5, hbo] at this
    exact Nat.lt_irrefl _ this
  have HF := Lib.hid PP.out.2.1
  have HL := Lib.hid PP.out.1
  have HQ7 : 1100 * k ≤ 700000 := by omega
  have HK1 : Hid (1100 * k + 1100 = 1100 * (k + 1)) := by show _ = _; omega
  have hbo' := hbo
  go_upto_block 2 with fail
  rw [HW5.out]
  rw [← hbo]
  clear hw5 hx5 hbo hbo' HW5 o0 o1 o2 o3 o4 o5
  go_cut [11, 12, 15] from 67 to 207 (fun v x y wx => ∃ s' lo' b' c', v = lp lo' b' ∧ x = lp lo' c' ∧ y = .bool true ∧ DoesAt w g r s' lo' b' c' (k + 1) wx)
  case first =>
    obtain ⟨o1, o2, o3, o4, o5⟩ := HX.out _ _ _ _ (List.mem_cons_self ..) P5.out
    by_cases hz0 : z = 0
    · as_aux_lemma =>
      subst hz0
      rcases lo with _ | lg
      · rw [show lp none b = Value.pointer none from rfl, show lp none c = Value.pointer none from rfl]
        go_wp2
        go_meet
        exact ⟨s, none, b, c, rfl, rfl, rfl, (fun l h => by cases h), by rw [← HK1.out]; exact HF.out.mono (by omega), P5.out.keep (fun y hy => by cases hy)⟩
      · rw [show lp (some lg) b = Value.pointer (some ⟨b, 0, none⟩) from rfl, show lp (some lg) c = Value.pointer (some ⟨c, 0, none⟩) from rfl]
        obtain ⟨hbc, hfit⟩ := HL.out lg rfl
        have HBC := Lib.hid hbc
        have HFIT := Lib.hid hfit
        have hx1 : x5.1 ≠ b := fun e => HNX.out (b, lgCells g lg, 74) (List.Mem.head _) e.symm
        have hx2 : x5.1 ≠ c := fun e => HNX.out (c, lgCells r lg, 80) (List.Mem.tail _ (List.Mem.head _)) e.symm
        have bd : Below w5.heap.size w5 w5.drew := (Below.refl _ _).drew
        have PA : Two w g r s s ((b, lgCells g lg, 74) :: (c, lgCells r lg, 80) :: [x5]) w5.drew := (P5.out.still bd).keep (fun y hy => by
          rcases List.mem_cons.1 hy with rfl | hy
          · exact List.Mem.tail _ (List.Mem.head _)
          rcases List.mem_cons.1 hy with rfl | hy
          · exact List.Mem.tail _ (List.Mem.tail _ (List.Mem.head _))
          · rw [List.mem_singleton.1 hy]; exact List.Mem.head _)
        obtain ⟨E, hE⟩ : ∃ E, E = lg.err s d := ⟨_, rfl⟩
        have HA : Hid (Calls Try.prog 12 #[.pointer (some ⟨b, 0, none⟩), .slice A1 n1 c1] w5.drew fun e w' => e = .returned (.int .i64 E) ∧ Two w g r (lg.dsk s d) s ((b, lgCells g (lg.next s d), 74) :: (c, lgCells r lg, 80) :: [x5]) w') := by
          rw [hE]
          exact two_append PA (fun y hy => by
            rcases List.mem_cons.1 hy with rfl | hy
            · exact fun e => hbc e.symm
            · rw [List.mem_singleton.1 hy]; exact hx1) hfit HOK.out.2.1.1 HN1.out (by omega) HF.out (by omega)
        have HRA : Hid (∀ w6, Two w g r (lg.dsk s d) s ((b, lgCells g (lg.next s d), 74) :: (c, lgCells r lg, 80) :: [x5]) w6 → Calls Try.prog 13 #[.pointer (some ⟨c, 0, none⟩), .slice A1 n1 c1] w6 fun e w' => e = .returned (.int .i64 E) ∧ Two w g r (lg.dsk s d) (lg.dsk s d) ((c, lgCells r (lg.next s d), 80) :: (b, lgCells g (lg.next s d), 74) :: [x5]) w') := fun w6 h => by
          rw [hE]
          have h' : Two w g r (lg.dsk s d) s ((c, lgCells r lg, 80) :: (b, lgCells g (lg.next s d), 74) :: [x5]) w6 := h.keep (fun y hy => by
            rcases List.mem_cons.1 hy with rfl | hy
            · exact List.Mem.tail _ (List.Mem.head _)
            rcases List.mem_cons.1 hy with rfl | hy
            · exact List.Mem.head _
            · rw [List.mem_singleton.1 hy]; exact List.Mem.tail _ (List.Mem.tail _ (List.Mem.head _)))
          exact two_refAppend h' (fun y hy => by
            rcases List.mem_cons.1 hy with rfl | hy
            · exact hbc
            · rw [List.mem_singleton.1 hy]; exact hx2) hfit HOK.out.2.1.1 HN1.out (by omega) HF.out (by omega)
        have hS5 : w5.drew.cell? ⟨bo, 4, none⟩ = some (.slice A1 n1 c1) := (HX.out _ _ _ _ (List.Mem.tail _ (List.Mem.tail _ (List.Mem.head _))) PA).2.2.2.1
        have HFE : Hid ((lg.dsk s d).Few (1100 * (k + 1))) := by
          have := Lg.few (d := d) hfit P5.out.ok HF.out
          have hc := lg.code_fits d
          show (lg.dsk s d).Few _
          rw [← HK1.out]
          exact this.mono (by omega)
        clear hE PA hx1 hx2 hbc hfit o1 o2 o3 o4 o5
        go_wp2_with fail
        go_region_held_law (fun w' => w'.cell? ⟨bo, 4, none⟩ = some (.slice A1 n1 c1)) (first | exact hS5 | assumption)
          (first
            | (go_at_call 12; refine HA.out.mono ?_; rintro e w6 ⟨rfl, hp6⟩; have P6 := Lib.hid hp6; have hS6 : w6.cell? ⟨bo, 4, none⟩ = some (.slice A1 n1 c1) := (HX.out _ _ _ _ (List.Mem.tail _ (List.Mem.tail _ (List.Mem.head _))) hp6).2.2.2.1; clear hp6)
            | (go_at_call 13; refine (HRA.out _ P6.out).mono ?_; rintro e w7 ⟨rfl, hp7⟩; have P7 := Lib.hid hp7; have hS7 : w7.cell? ⟨bo, 4, none⟩ = some (.slice A1 n1 c1) := (HX.out _ _ _ _ (List.Mem.tail _ (List.Mem.tail _ (List.Mem.head _))) hp7).2.2.2.1; clear hp7))
        go_wp2
        go_meet
        refine ⟨lg.dsk s d, some (lg.next s d), b, c, rfl, rfl, rfl, fun l h => ⟨HBC.out, ?_⟩, HFE.out, P7.out.keep (fun y hy => ?_)⟩
        · injection h with h
          rw [← h]
          exact HFIT.out.next.1
        · rcases List.mem_cons.1 hy with rfl | hy
          · exact List.Mem.tail _ (List.Mem.head _)
          · rw [List.mem_singleton.1 hy]; exact List.Mem.head _
    by_cases hz1 : z = 1
    · as_aux_lemma =>
      subst hz1
      obtain ⟨E, s1, lo1, hbg⟩ := bg_exists s f N gen d
      have HBG := Lib.hid hbg
      have HFT := Lib.hid (bg_fits hbg P5.out.ok HF.out)
      have PB : Two w g r s s [x5] w5 := P5.out.keep (fun y hy => by rw [List.mem_singleton.1 hy]; exact List.Mem.head _)
      have HB1 : Hid (Calls Try.prog 14 #[.pointer (some ⟨g, 0, none⟩), .int .i64 f, .int .i64 N, .int .i64 gen, .slice A1 n1 c1] w5 fun e w' => ∃ b, e = .returned (.tuple #[lp lo1 b, .int .i64 E]) ∧ Two w g r s1 s (lx g 74 lo1 b ++ [x5]) w' ∧ w5.heap.size ≤ b) := two_begin PB HBG.out HOK.out.2.1.1 HN1.out (by omega) HF.out (by omega) HOK.out.1.2.1
      clear hbg PB
      go_wp2_with fail
      refine HB1.out.mono ?_
      rintro e w6 ⟨b1, rfl, hp6, _⟩
      have P6 := Lib.hid hp6
      clear o1 o2 o3 o4 o5
      obtain ⟨o1, o2, o3, o4, o5⟩ := HX.out _ _ _ _ (List.mem_append_right _ (List.Mem.head _)) hp6
      have HB2 : Hid (Calls Try.prog 15 #[.pointer (some ⟨r, 0, none⟩), .int .i64 f, .int .i64 N, .int .i64 gen, .slice A1 n1 c1] w6 fun e w' => ∃ b, e = .returned (.tuple #[lp lo1 b, .int .i64 E]) ∧ Two w g r s1 s1 (lx r 80 lo1 b ++ (lx g 74 lo1 b1 ++ [x5])) w' ∧ w6.heap.size ≤ b) := two_refBegin hp6 HBG.out HOK.out.2.1.1 HN1.out (by omega) HF.out (by omega)
      clear hp6 HB1
      go_wp2_with fail
      refine HB2.out.mono ?_
      rintro e w7 ⟨c1', rfl, hp7, hc1⟩
      have P7 := Lib.hid hp7
      have HNE := Lib.hid (begun_apart P6.out hc1)
      clear hp7 hc1 HB2 o1 o2 o3 o4 o5
      go_wp2
      go_meet
      exact ⟨s1, lo1, b1, c1', rfl, rfl, rfl, fun l h => ⟨HNE.out l h, HFT.out.1 l h⟩, by rw [← HK1.out]; exact HFT.out.2, two_swap P7.out⟩
    by_cases hz2 : z = 2
    · as_aux_lemma =>
      subst hz2
      obtain ⟨E, lo1, ds, hop⟩ := op_exists s f N
      have HOP := Lib.hid hop
      have HFT := Lib.hid (op_fits hop P5.out.ok)
      have PB : Two w g r s s [x5] w5 := P5.out.keep (fun y hy => by rw [List.mem_singleton.1 hy]; exact List.Mem.head _)
      have HB1 := Lib.hid (two_open PB hop HOK.out.1.2.1)
      clear hop PB
      go_wp2_with fail
      refine HB1.out.mono ?_
      rintro e w6 ⟨b1, Aa, pa, na, ca, rfl, hna, hda, hsa, hp6, _, _⟩
      have P6 := Lib.hid hp6
      have HSA := Lib.hid hsa
      have HNA := Lib.hid hna
      have HDA := Lib.hid hda
      clear o1 o2 o3 o4 o5
      obtain ⟨o1, o2, o3, o4, o5⟩ := HX.out _ _ _ _ (List.mem_append_right _ (List.Mem.head _)) hp6
      have HB2 := Lib.hid (two_refOpen hp6 HOP.out)
      clear hp6 hsa hna hda HB1
      go_wp2_with fail
      refine HB2.out.mono ?_
      rintro e w7 ⟨c1', Ab, pb, nb, cb, rfl, hnb, hdb, hsb, hp7, hc1, hbl7⟩
      have P7 := Lib.hid hp7
      have HNE := Lib.hid (begun_apart P6.out hc1)
      have hlen : ∀ (ps : List Piece) (n : Nat), ps.length = n → bytesOf ps = ds → n ≤ 9223372036854775807 := fun ps n h1 h2 => by
        have h3 := HFT.out.2
        rw [← h2, length_bytesOf, h1] at h3
        omega
      have HTX : Hid (Calls Try.prog 18 #[.slice Aa na ca, .slice Ab nb cb] w7 fun e w' => e = .returned (.bool true) ∧ Below w7.heap.size w7 w') := by
        refine (texts_same Aa pa na ca Ab pb nb cb w7 HNA.out hnb (HSA.out.below hbl7) hsb (hlen pa na HNA.out HDA.out) (hlen pb nb hnb hdb)).mono ?_
        rintro e w' ⟨he, hb⟩
        refine ⟨?_, hb⟩
        rw [he, decide_eq_true (HDA.out.trans hdb.symm)]
      clear hp7 hc1 HB2 hnb hdb hsb hbl7 hlen o1 o2 o3 o4 o5
      go_wp2_with (go_at_call 18; refine HTX.out.mono ?_; rintro e w8 ⟨rfl, hb8⟩; have HB8 := Lib.hid hb8; clear hb8)
      go_meet
      exact ⟨s, lo1, b1, c1', rfl, rfl, rfl, fun l h => ⟨HNE.out l h, HFT.out.1 l h⟩, by rw [← HK1.out]; exact HF.out.mono (by omega), (two_swap P7.out).still HB8.out⟩
    by_cases hz3 : z = 3
    · as_aux_lemma =>
      subst hz3
      have HA := Lib.hid (two_arm (i := N) P5.out)
      go_wp2_with fail
      refine HA.out.mono ?_
      rintro e w6 ⟨rfl, hp6⟩
      clear o1 o2 o3 o4 o5
      obtain ⟨o1, o2, o3, o4, o5⟩ := HX.out _ _ _ _ (List.mem_cons_self ..) hp6
      have HA2 := Lib.hid (two_refArm (i := N) hp6)
      clear hp6 HA
      go_wp2_with fail
      refine HA2.out.mono ?_
      rintro e w7 ⟨rfl, hp7⟩
      have P7 := Lib.hid hp7
      clear hp7 HA2 o1 o2 o3 o4 o5
      go_wp2
      go_meet
      exact ⟨s.arm N, lo, b, c, rfl, rfl, rfl, fun l h => ⟨(HL.out l h).1, (HL.out l h).2.same (by unfold Dsk.arm; split <;> rfl)⟩, by rw [← HK1.out]; exact (HF.out.arm N HOK.out.1.2.2.1.2).mono (by omega), P7.out.keep (fun y hy => List.mem_cons_of_mem _ hy)⟩
    by_cases hz4 : z = 4
    · as_aux_lemma =>
      subst hz4
      have HA := Lib.hid (two_crash (cp := c5) P5.out HOK.out.2.2.1 HN2.out (by rw [← HN2.out]; exact HOK.out.2.2.2.1) HOK.out.2.2.2.2)
      go_wp2_with fail
      refine HA.out.mono ?_
      rintro e w6 ⟨rfl, hp6⟩
      clear o1 o2 o3 o4 o5
      obtain ⟨o1, o2, o3, o4, o5⟩ := HX.out _ _ _ _ (List.mem_cons_self ..) hp6
      have HA2 := Lib.hid (two_refCrash (cp := c5) hp6 HOK.out.2.2.1 HN2.out (by rw [← HN2.out]; exact HOK.out.2.2.2.1) HOK.out.2.2.2.2)
      clear hp6 HA
      go_wp2_with fail
      refine HA2.out.mono ?_
      rintro e w7 ⟨rfl, hp7⟩
      have P7 := Lib.hid hp7
      clear hp7 HA2 o1 o2 o3 o4 o5
      go_wp2
      go_meet
      exact ⟨s.crash (pickOf pk), lo, b, c, rfl, rfl, rfl, fun l h => ⟨(HL.out l h).1, (HL.out l h).2.same (kept_length _ _ _ _)⟩, by rw [← HK1.out]; exact (HF.out.crash (pickOf pk)).mono (by omega), P7.out.keep (fun y hy => List.mem_cons_of_mem _ hy)⟩
    as_aux_lemma =>
      have z0 : (z == 0) = false := by rw [beq_eq_false_iff_ne]; exact hz0
      have z1 : (z == 1) = false := by rw [beq_eq_false_iff_ne]; exact hz1
      have z2 : (z == 2) = false := by rw [beq_eq_false_iff_ne]; exact hz2
      have z3 : (z == 3) = false := by rw [beq_eq_false_iff_ne]; exact hz3
      have z4 : (z == 4) = false := by rw [beq_eq_false_iff_ne]; exact hz4
      go_wp2
      go_meet
      exact ⟨s, lo, b, c, rfl, rfl, rfl, HL.out, by rw [← HK1.out]; exact HF.out.mono (by omega), P5.out.keep (fun y hy => List.mem_cons_of_mem _ hy)⟩
  case rest =>
  as_aux_lemma =>
    obtain ⟨s', lo', b', c', rfl, rfl, rfl, hp⟩ := hcut
    have P7 := Lib.hid hp
    clear hp P5 HX HNX HF HL PP HOK
    have HAL := Lib.hid (does_alike P7.out)
    go_wp2_with fail
    refine HAL.out.mono ?_
    rintro e w8 ⟨rfl, hb8⟩
    have P8 := Lib.hid (P7.out.still hb8)
    clear hb8 HAL P7
    have hc5 := two_cells P8.out.2.2
    have HCA : Hid (∀ w', Below w8.heap.size w8 w' → Calls Try.prog 24 #[.pointer (some ⟨g, 0, none⟩)] w' fun e w'' => e = .returned (.int .i64 (s'.calls : Int)) ∧ w'' = w') := fun w' h => two_calls (P8.out.2.2.still h)
    obtain ⟨TI, NI, hti⟩ : ∃ T N, T = (⟨s'.K.flatten.toArray⟩ : ByteArray) ∧ N = s'.K.flatten.length := ⟨_, _, rfl, rfl⟩
    have HIM : Hid (∀ w', Below w8.heap.size w8 w' → Calls Try.prog 25 #[.pointer (some ⟨g, 0, none⟩)] w' fun e w'' => ImageTo TI NI w' w'' e) := fun w' h => by rw [hti.1, hti.2]; exact two_image (P8.out.2.2.still h)
    have HRI : Hid (∀ w', Below w8.heap.size w8 w' → Calls Try.prog 26 #[.pointer (some ⟨r, 0, none⟩)] w' fun e w'' => ImageTo TI NI w' w'' e) := fun w' h => by rw [hti.1, hti.2]; exact two_refImage (P8.out.2.2.still h)
    generalize (s'.calls : Int) = ca at hc5 HCA
    have bd : Below w8.heap.size w8 w8.drew := (Below.refl _ _).drew
    clear hti
    go_wp2_with fail
    go_region_held_law (fun w' => Below w8.heap.size w8 w') (first | exact bd | assumption | (exact hop ‹Below w8.heap.size w8 _› (by assumption)))
      (first
        | (go_at_call 24; refine (HCA.out _ ?_).mono ?_; (assumption); rintro e w' ⟨rfl, hw'⟩; obtain rfl := hw'.symm)
        | (go_at_call 25; refine (HIM.out _ ?_).mono ?_; (assumption); rintro e w9 ⟨A9, c9, rfl, hu9, hb9⟩; have HU9 := Lib.hid hu9; have hv9 := hu9 _ (Below.refl _ _); (try have hv98 := HU10.out _ hb9); clear hu9)
        | (go_at_call 26; refine (HRI.out _ ?_).mono ?_; (assumption); rintro e w10 ⟨A10, c10, rfl, hu10, hb10⟩; have HU10 := Lib.hid hu10; have hv10 := hu10 _ (Below.refl _ _); (try have hv109 := HU9.out _ hb10); clear hu10))
    all_goals go_wp2_with fail
    all_goals go_roundw
    all_goals first
      | exact ⟨k + 1, s', lo', b', c', by omega, by go_num, rfl, rfl, P8.out.still (by assumption)⟩
      | (simp [intOf]; omega)
end Go.Proofs.Ytkbjhnlihnakkaa
