/-
  RulesMore, walked. Conditions: the argument is there.
-/
import Derived.Test.YtdnhbledndgbcaaGreatCRkSz
import Derived.Test.YtdnhbledndgbcaaGreatCRkAn
import Derived.Test.YtdnhbledndgbcaaGreatCLaOpen
namespace Go.Proofs.YtdnhbledndgbcaaGreat
open Go.RowKit
def AtW (w0 : World) (G0 : Nat → Prop) (_ : World) (_ : Nat → Prop) (x : Ty) (cs : List Value) : Prop := TyAt w0 G0 x cs
theorem zz_at {w : World} {r1 r2 : Nat} {G : Nat → Prop} (h1 : Blk w r1 [strV [122, 122], .string ⟨#[]⟩] 40) (h2 : Blk w r2 [strV [114], .slice (some ⟨r1, 0, none⟩) 1 1, .int .i64 0, .string ⟨#[]⟩, .string ⟨#[]⟩, .slice none 0 0] 46) (n1 : ¬ G r1) (n2 : ¬ G r2) :
    TyAt w G zzT [strV [122, 122], .slice (some ⟨r2, 0, none⟩) 1 1] := by
  have hrf : RowAt 2 RfAt w G (some ⟨r1, 0, none⟩) [(([122, 122] : Txt), ([] : Txt))] := .inr ⟨r1, 0, rfl, h1.lt, n1, fun j hj => ⟨[strV [122, 122], .string ⟨#[]⟩], by
    obtain rfl : j = 0 := by simpa using hj
    exact ⟨rfl, (by decide : (2 : Nat) ≤ 9223372036854775807), (by decide : (0 : Nat) ≤ 9223372036854775807)⟩, fun i hi => by
    obtain rfl : j = 0 := by simpa using hj
    have : i = 0 ∨ i = 1 := by omega
    rcases this with rfl | rfl
    · exact h1.cell (i := 0) (by simp)
    · exact h1.cell (i := 1) (by simp)⟩⟩
  have hex : ExAt w G noEx [.int .i64 0, .string ⟨#[]⟩, .string ⟨#[]⟩, .slice none 0 0] := ExAt.of_row (k := 0) (n := []) (o := []) (ks := []) (A := none) (c := 0) ⟨⟨by decide, by decide⟩, Nat.zero_le _, Nat.zero_le _, Nat.zero_le _⟩ (.inl rfl)
  have hrl : RlAt w G zzR [strV [114], .slice (some ⟨r1, 0, none⟩) 1 1, .int .i64 0, .string ⟨#[]⟩, .string ⟨#[]⟩, .slice none 0 0] := ⟨_, 1, _, rfl, ⟨by unfold small zzR; decide, by unfold zzR; decide⟩, hrf, hex⟩
  refine ⟨some ⟨r2, 0, none⟩, 1, rfl, ⟨⟨by unfold small zzT; decide, by unfold zzT; decide⟩, by unfold zzT; decide⟩, .inr ⟨r2, 0, rfl, h2.lt, n2, fun j hj => ?_⟩⟩
  obtain rfl : j = 0 := by
    have hj : j < 1 := hj
    omega
  refine ⟨_, hrl, fun i hi => ?_⟩
  have : i = 0 ∨ i = 1 ∨ i = 2 ∨ i = 3 ∨ i = 4 ∨ i = 5 := by omega
  rcases this with rfl | rfl | rfl | rfl | rfl | rfl
  · exact h2.cell (i := 0) (by simp)
  · exact h2.cell (i := 1) (by simp)
  · exact h2.cell (i := 2) (by simp)
  · exact h2.cell (i := 3) (by simp)
  · exact h2.cell (i := 4) (by simp)
  · exact h2.cell (i := 5) (by simp)
theorem wr16 (n : Nat) (h : n < 16) : IntKind.i64.wrap ((n : Int) + 1) = (n : Int) + 1 := by
  have h2 : n = 0 ∨ n = 1 ∨ n = 2 ∨ n = 3 ∨ n = 4 ∨ n = 5 ∨ n = 6 ∨ n = 7 ∨ n = 8 ∨ n = 9 ∨ n = 10 ∨ n = 11 ∨ n = 12 ∨ n = 13 ∨ n = 14 ∨ n = 15 := by omega
  rcases h2 with rfl | rfl | rfl | rfl | rfl | rfl | rfl | rfl | rfl | rfl | rfl | rfl | rfl | rfl | rfl | rfl <;> rfl
set_option linter.unusedSimpArgs false in
set_option maxRecDepth 100000 in
set_option maxHeartbeats 4000000 in
theorem rulesMore_walk (s : Sc) (A : Option Addr) (c : Nat) (W : World) (hs : ScAt W noF A s) (hl : s.length ≤ 9223372036854775807 ∧ s.length ≤ c) :
    Calls Tryz.prog 4 #[.agg #[.slice A s.length c]] W fun e w' => e = .returned (.bool true) ∧ Below W.heap.size W w' := by
  obtain ⟨hl, hcap⟩ := hl
  obtain ⟨W1, hW⟩ : ∃ W1, W1 = W.alloc (.cells #[.slice A s.length c] 24) := ⟨_, rfl⟩
  have HK0 : Hid (Blk W1 W.heap.size [.slice A s.length c] 24) := by rw [hW]; exact Lib.hid (Blk.new W _ _)
  have HB0 : Hid (Below W.heap.size W W1) := by rw [hW]; exact Lib.hid ((Below.refl W.heap.size W).alloc (Nat.le_refl _) _)
  have HW := Lib.hid hW
  have HX : Hid (∀ w, Below W1.heap.size W1 w → w.cell? ⟨W.heap.size, 0, none⟩ = some (.slice A s.length c)) := Lib.hid (fun w hw => (HK0.out.below hw HK0.out.lt).cell (i := 0) (by simp))
  have HS : Hid (∀ w, Below W1.heap.size W1 w → ScAt w noF A s) := Lib.hid (fun w hw => hs.below (HB0.out.trans (hw.mono HB0.out.size)))
  have HA := Lib.hid (awake_any W1)
  clear hW hs
  go_enter Tryz.func4, Tryz.ntmps4
  go_wp2_with fail
  rw [← HW.out]
  refine HA.out.mono ?_
  rintro e w1 ⟨rfl, hb1⟩
  have HB1 := Lib.hid hb1
  have x1 := HX.out w1 hb1
  have HF := Lib.hid (few_any s 80 w1 noF A c (HS.out w1 hb1) hl (by omega))
  obtain ⟨q, hq⟩ : ∃ q, fewS s 80 = q := ⟨_, rfl⟩
  rw [hq] at HF
  have HQ := Lib.hid hq
  clear hb1 hq HA
  cases q
  · go_wp2_with fail
    refine HF.out.mono ?_
    rintro e w2 ⟨rfl, hb2⟩
    go_wp2_with fail
    go_ret
    have hb := hop HB1.out hb2
    exact ⟨rfl, HB0.out.trans (hb.mono HB0.out.size)⟩
  have HFL := Lib.hid (few_ln (few_80 HQ.out))
  have HRF := Lib.hid (few_refs (few_80 HQ.out))
  go_wp2_with fail
  refine HF.out.mono ?_
  rintro e w2 ⟨rfl, hb2⟩
  have HB2 := Lib.hid (hop HB1.out hb2)
  have x2 := HX.out w2 HB2.out
  clear hb2 HF x1
  by_cases h16 : 16 ≤ s.length
  · have e0 : ((16 : Int) ≤ (s.length : Int)) := by omega
    have e1 : decide ((16 : Int) ≤ (s.length : Int)) = true := decide_eq_true e0
    go_wp2_with fail
    go_ret
    exact ⟨rfl, HB0.out.trans (HB2.out.mono HB0.out.size)⟩
  have e0 : ¬ ((16 : Int) ≤ (s.length : Int)) := by omega
  have e1 : decide ((16 : Int) ≤ (s.length : Int)) = false := decide_eq_false e0
  go_wp2_with fail
  clear e0 e1 x2
  have HSR := Lib.hid (HS.out w2 HB2.out)
  go_loopw [5] (fun i wr => ∃ j : Nat, j ≤ s.length ∧ i = .int .i64 j ∧ Hid (∀ t ∈ s.take j, t.name ≠ [122, 122]) ∧ wr = w2) (fun i _ => s.length - (intOf i).toNat)
  case atStart => exact ⟨0, by omega, rfl, Lib.hid (fun t ht => by simp at ht), rfl⟩
  case round =>
    obtain ⟨j, hj, rfl, H, rfl⟩ := hrel
    have x2 := HX.out _ HB2.out
    by_cases hlt : j < s.length
    · have hlt2 : ((j : Int) < (s.length : Int)) := by omega
      obtain ⟨b, off, B, d, rfl, _, _, hc⟩ := RowAt.ty HSR.out hlt
      have z0 := (hc _ (Below.refl _ _)).1
      have HNM : Hid (s[j].name ≠ [122, 122] → ∀ t ∈ s.take (j + 1), t.name ≠ [122, 122]) := Lib.hid (fun hne t ht => by
        rw [List.take_succ_eq_append_getElem hlt] at ht
        rcases List.mem_append.1 ht with h | h
        · exact H.out t h
        · rw [List.mem_singleton.1 h]; exact hne)
      clear hc
      generalize s[j].name = nm at *
      by_cases hzz : nm = [122, 122]
      · have hd : (nm == [122, 122]) = true := beq_iff_eq.2 hzz
        clear hzz
        go_wp2_with fail
        go_ret
        exact ⟨rfl, HB0.out.trans (HB2.out.mono HB0.out.size)⟩
      · have hd : (nm == [122, 122]) = false := beq_eq_false_iff_ne.2 hzz
        have HN2 := Lib.hid (HNM.out hzz)
        clear hzz HNM
        go_wp2_with fail
        go_roundw
        case rel => exact ⟨j + 1, by omega, by go_num, HN2, by first | rfl | trivial⟩
        case measure => simp [intOf]; omega
    · have hlt2 : ¬ ((j : Int) < (s.length : Int)) := by omega
      have HZZ : Hid (∀ t ∈ s, t.name ≠ [122, 122]) := Lib.hid (by have h := H.out; rwa [List.take_of_length_le (by omega)] at h)
      clear H
      have HLP := Lib.hid (levels2_any s noF A c hl hcap HRF.out _ HSR.out)
      go_wp2_with fail
      refine HLP.out.mono ?_
      rintro e w4 ⟨z, A3, n3, c3, rfl, hb4, hex, hn3, hc3⟩
      obtain ⟨q, hq⟩ : ∃ q, decide (z.2.2 = 0) = q := ⟨_, rfl⟩
      rw [hq]
      have HQZ := Lib.hid hq
      have HB4 := Lib.hid (hop HB2.out hb4)
      have x4 := HX.out w4 HB4.out
      have HS4 := Lib.hid (HS.out w4 HB4.out)
      have HEX := Lib.hid hex
      obtain ⟨i0, z0, hRW⟩ := rowTs
      have HRW := Lib.hid hRW
      have hs16 : s.length ≤ 1000000 := by omega
      clear hq hb4 hex hn3 hRW x2 HLP
      go_wp2_with (first
        | (at_builtin; refine wpList_append_types rfl (.const (.slice none 0 0)) (.tmp 48) rfl rfl (by first | rfl | (simp [Act.eval]; done) | (simp [Act.eval, Act.put]; done)) hs16 HS4.out ?_; intro A5 c5 w5 news hnl ho5 hb5 hcs; have HNL := Lib.hid hnl; have HCS := Lib.hid hcs; have HB5 := Lib.hid hb5; have HU : Hid (Below w4.heap.size w4 ((w5.alloc (.cells #[strV [122, 122], .string ⟨#[]⟩] 40)).alloc (.cells #[strV [114], .slice (some ⟨w5.heap.size, 0, none⟩) 1 1, .int .i64 0, .string ⟨#[]⟩, .string ⟨#[]⟩, .slice none 0 0] 46))) := Lib.hid ((hb5.alloc hb5.size _).alloc (by have := hb5.size; simp; omega) _); have HOW5 : Hid (World.ownsRow ((w5.alloc (.cells #[strV [122, 122], .string ⟨#[]⟩] 40)).alloc (.cells #[strV [114], .slice (some ⟨w5.heap.size, 0, none⟩) 1 1, .int .i64 0, .string ⟨#[]⟩, .string ⟨#[]⟩, .slice none 0 0] 46)) w4.heap.size 38 2 (.slice A5 s.length c5) s.length news) := Lib.hid ((ho5.alloc _).alloc _); have HOB5 := Lib.hid (own_lt ho5); clear hnl ho5 hb5 hcs)
        | (at_builtin; refine wpList_append_struct ((w5.alloc (.cells #[strV [122, 122], .string ⟨#[]⟩] 40)).alloc (.cells #[strV [114], .slice (some ⟨w5.heap.size, 0, none⟩) 1 1, .int .i64 0, .string ⟨#[]⟩, .string ⟨#[]⟩, .slice none 0 0] 46)) rfl (.tmp 49) (.tmp 55) 22 rfl HRW.out (by decide) (by decide) w4 A5 s.length c5 news [strV [122, 122], .slice (some ⟨w5.heap.size + 1, 0, none⟩) 1 1] rfl (by first | rfl | (simp [Act.eval]; done) | (simp [Act.eval, Act.put]; done)) (by first | rfl | (simp [Act.eval]; done) | (simp [Act.eval, Act.put]; done)) HU.out HOW5.out (fun u hu => by simp only [List.mem_cons, List.not_mem_nil, or_false] at hu; rcases hu with rfl | rfl <;> rfl) hs16 ?_))
      intro A7 c7 w7 ho7 hb7 hg7 ht7
      have hu5 : ((w5.alloc (.cells #[strV [122, 122], .string ⟨#[]⟩] 40)).alloc (.cells #[strV [114], .slice (some ⟨w5.heap.size, 0, none⟩) 1 1, .int .i64 0, .string ⟨#[]⟩, .string ⟨#[]⟩, .slice none 0 0] 46)).heap.size = w5.heap.size + 1 + 1 := by simp
      have hlt7 : (s ++ [zzT]).length = s.length + 1 := by simp
      have hzt : TyAt w7 noF zzT [strV [122, 122], .slice (some ⟨w5.heap.size + 1, 0, none⟩) 1 1] := by
        have hk1 : Blk (((w5.alloc (.cells #[strV [122, 122], .string ⟨#[]⟩] 40)).alloc (.cells #[strV [114], .slice (some ⟨w5.heap.size, 0, none⟩) 1 1, .int .i64 0, .string ⟨#[]⟩, .string ⟨#[]⟩, .slice none 0 0] 46)).alloc (.cells [strV [122, 122], .slice (some ⟨w5.heap.size + 1, 0, none⟩) 1 1].toArray 38)) w5.heap.size [strV [122, 122], .string ⟨#[]⟩] 40 := ((Blk.new w5 _ _).alloc _).alloc _
        have hk2 : Blk (((w5.alloc (.cells #[strV [122, 122], .string ⟨#[]⟩] 40)).alloc (.cells #[strV [114], .slice (some ⟨w5.heap.size, 0, none⟩) 1 1, .int .i64 0, .string ⟨#[]⟩, .string ⟨#[]⟩, .slice none 0 0] 46)).alloc (.cells [strV [122, 122], .slice (some ⟨w5.heap.size + 1, 0, none⟩) 1 1].toArray 38)) (w5.heap.size + 1) [strV [114], .slice (some ⟨w5.heap.size, 0, none⟩) 1 1, .int .i64 0, .string ⟨#[]⟩, .string ⟨#[]⟩, .slice none 0 0] 46 := by
          have h := Blk.new (w5.alloc (.cells #[strV [122, 122], .string ⟨#[]⟩] 40)) [strV [114], .slice (some ⟨w5.heap.size, 0, none⟩) 1 1, .int .i64 0, .string ⟨#[]⟩, .string ⟨#[]⟩, .slice none 0 0] 46
          rw [World.size_alloc] at h
          exact h.alloc _
        exact TyAt.moved (Spared.of_grown hg7 (fun k h _ => h)) (fun _ h => h.elim) (zz_at (G := fun k => (Value.slice A5 s.length c5).ownBlock = some k) hk1 hk2 (fun e => Nat.lt_irrefl _ (HOB5.out _ e)) (fun e => by have := HOB5.out _ e; omega))
      have hR7 : ∀ j (h : j < (s ++ [zzT]).length), ∃ cs, AtW w7 noF w4 noF (s ++ [zzT])[j] cs ∧ ∀ q, q < 2 → (news ++ [strV [122, 122], .slice (some ⟨w5.heap.size + 1, 0, none⟩) 1 1])[j * 2 + q]? = cs[q]? := fun j hj => by
        have hnl := HNL.out
        by_cases hjs : j < s.length
        · obtain ⟨cs, h1, h2⟩ := HCS.out j hjs
          refine ⟨cs, ?_, fun q hq => ?_⟩
          · rw [List.getElem_append_left hjs]
            exact (h1.below hb7 : TyAt w7 noF s[j] cs)
          · rw [List.getElem?_append_left (by omega)]; exact h2 q hq
        · obtain rfl : j = s.length := by omega
          refine ⟨[strV [122, 122], .slice (some ⟨w5.heap.size + 1, 0, none⟩) 1 1], ?_, fun q hq => ?_⟩
          · rw [List.getElem_append_right (Nat.le_refl _)]
            simp only [Nat.sub_self, List.getElem_cons_zero]
            exact hzt
          · rw [List.getElem?_append_right (by omega), hnl]
            congr 1
            omega
      have HST : Hid (ScAt w7 noF A7 (s ++ [zzT])) := Lib.hid (show RowAt 2 (AtW w7 noF) w7 noF A7 (s ++ [zzT]) from RowCp.row (RowCp.of_own (R := AtW w7 noF) (w := w4) (F := noF) (by rw [List.length_append, HNL.out, hlt7]; show s.length * 2 + 2 = _; omega) ho7 hlt7.symm hR7) (fun _ h => h.elim) (fun _ _ h => h))
      have HCAP := Lib.hid (own_cap ho7)
      have HB7 := Lib.hid (hop HB4.out hb7)
      have HB47 := Lib.hid hb7
      have HLT := Lib.hid hlt7
      clear ho7 hb7 hg7 ht7 hu5 hlt7 hzt hR7
      obtain ⟨u8, hu8⟩ : ∃ u8, u8 = w7.alloc (.cells #[.slice A7 (s.length + 1) c7] 24) := ⟨_, rfl⟩
      have hb8 : Below w7.heap.size w7 u8 := by rw [hu8]; exact (Below.refl _ _).alloc (Nat.le_refl _) _
      have HB8 := Lib.hid (hop HB7.out hb8)
      have HB48 := Lib.hid (hop HB47.out hb8)
      have hk8 : Blk u8 w7.heap.size [.slice A7 (s.length + 1) c7] 24 := by rw [hu8]; exact Blk.new _ _ _
      have y8 := hk8.cell (i := 0) (by simp)
      simp only [List.getElem_cons_zero] at y8
      have HRF2 : ∀ t ∈ s ++ [zzT], ∀ r ∈ t.rels, r.refs.length ≤ 1000000 := fun t ht => by
        rcases List.mem_append.1 ht with h | h
        · exact HRF.out t h
        · rw [List.mem_singleton.1 h]
          intro r hr
          rw [List.mem_singleton.1 hr]
          exact (by decide : (1 : Nat) ≤ 1000000)
      have HLP2 : Hid (Calls Tryz.prog 7 #[.agg #[.slice A7 (s.length + 1) c7]] u8 (LsAre (s ++ [zzT]) u8)) := Lib.hid (by
        have h := levels2_any (s ++ [zzT]) noF A7 c7 (by rw [HLT.out]; omega) (by rw [HLT.out]; exact HCAP.out) HRF2 u8 (HST.out.below hb8)
        rw [HLT.out] at h
        exact h)
      have HU8 := Lib.hid hu8
      rw [hu8] at y8
      clear hk8 hb8 hu8 HRF2 x4
      go_wp2_with fail
      rw [← HU8.out]
      refine HLP2.out.mono ?_
      rintro e w9 ⟨z', A9, n9, c9, rfl, hb9, hex', _, hc9⟩
      have HB9 := Lib.hid (hop HB8.out hb9)
      have h49 : Below w4.heap.size w4 w9 := hop HB48.out hb9
      have hex1 : ExIs s z (fun ls => n3 = s.length ∧ IlAt w9 (fun k => k < wr.heap.size) A3 ls) := HEX.out.mono (fun ls h => ⟨h.1, h.2.below h49⟩)
      obtain ⟨hm1, hm2⟩ := more_same HZZ.out (by omega) hex1 hex'
      have HM1 := Lib.hid hm1
      have HM2 := Lib.hid hm2
      have HC9 := Lib.hid hc9
      obtain ⟨q', hq'⟩ : ∃ q', decide (z'.2.2 = 0) = q' := ⟨_, rfl⟩
      rw [hq']
      have HQZ' := Lib.hid hq'
      clear hb9 hex' hex1 hm1 hm2 hc9 hq' y8
      have x9 := HX.out w9 HB9.out
      cases q
      · have HD : Hid (q' = false ∨ (docC s).2.2 = 1 ∨ (docC s).2.2 = 6) := Lib.hid (by
          rcases HM1.out (of_decide_eq_false HQZ.out) with h | h
          · exact .inl (HQZ'.out.symm.trans (decide_eq_false h))
          · exact .inr h)
        have HCD := Lib.hid (rcheck_any s A c hl HFL.out noF w9 (HS.out w9 HB9.out))
        generalize docC s = f at *
        obtain ⟨f1, f2, f3⟩ := f
        go_wp2_with fail
        refine HCD.out.mono ?_
        rintro e w10 ⟨rfl, hb10⟩
        have hk10 := Blk.new w10 [.int .i64 f1, .int .i64 f2, .int .i64 (f3 : Int)] 33
        have y10 := hk10.cell (i := 2) (by simp)
        simp only [List.getElem_cons_succ, List.getElem_cons_zero] at y10
        have HB10 : Hid (Below W1.heap.size W1 (w10.alloc (.cells #[.int .i64 f1, .int .i64 f2, .int .i64 (f3 : Int)] 33))) := Lib.hid (hop HB9.out (hb10.alloc hb10.size _))
        clear hk10 hb10
        rcases HD.out with h | h | h
        · subst h
          go_wp2_with fail
          go_ret
          exact ⟨rfl, HB0.out.trans (HB10.out.mono HB0.out.size)⟩
        · have h : f3 = 1 := h
          subst h
          cases q'
          all_goals focus
            go_wp2_with fail
            go_ret
            exact ⟨rfl, HB0.out.trans (HB10.out.mono HB0.out.size)⟩
        · have h : f3 = 6 := h
          subst h
          cases q'
          all_goals focus
            go_wp2_with fail
            go_ret
            exact ⟨rfl, HB0.out.trans (HB10.out.mono HB0.out.size)⟩
      · obtain ⟨h1, HL, ⟨rfl, hil3⟩, rfl, hil9⟩ := HM2.out (of_decide_eq_true HQZ.out)
        obtain rfl : q' = true := HQZ'.out.symm.trans (decide_eq_true h1)
        have hls : (hvS HL s).length = s.length := hvS_len HL s
        have hrs : ∀ x ∈ hvS HL s, x.length ≤ 1000000 := fun x hx => by
          obtain ⟨t, ht, rfl⟩ := List.mem_map.1 hx
          have h1 := wRs_len t.rels
          have h2 := wTs_mem ht
          have h3 := few_80 HQ.out
          unfold hvT
          rw [List.length_map]
          omega
        have hil9' : IlAt w9 (fun k => k < u8.heap.size) A9 (hvS HL s) := by
          have h := RowAt.take hil9 s.length
          rw [hvS_app, List.take_left' hls] at h
          exact h
        have HEQ : Hid (∀ w, Below w9.heap.size w9 w → Calls Tryz.prog 9 #[.slice A9 s.length c9, .slice A3 s.length c3] w fun r w' => r = .returned (.bool true) ∧ Below w.heap.size w w') := Lib.hid (fun w hw => by
          have h := levelsEq_any (hvS HL s) (hvS HL s) _ _ A9 A3 c9 c3 w (hil9'.below hw) (hil3.below hw) (by rw [hls]; omega) hrs hrs
          rw [hls, decide_eq_true rfl] at h
          exact h)
        have hcp9 : s.length ≤ c9 := by have := HC9.out; rw [HLT.out] at this; omega
        have hch : ∀ W, (Instr.slice 27 (.slice A9 (s.length + 1) c9) none (some (.int .i64 (s.length : Int))) none).run Tryz.prog W = .ok (.slice A9 s.length c9) W := fun W => cutL_head _ _ _ s.length hcp9 W
        have hwr : IntKind.i64.wrap ((s.length : Int) + 1) = (s.length : Int) + 1 := wr16 s.length (by omega)
        have hT : True := trivial
        rw [show ((s ++ [zzT]).length) = s.length + 1 from HLT.out]
        clear hil3 hil9 hil9' hls hrs HM1 HM2 HEX HLT
        go_wp2_with fail
        refine (HEQ.out _ (Below.refl w9.heap.size w9)).mono ?_
        rintro r w10 ⟨rfl, hb10⟩
        have HB10 := Lib.hid (hop HB9.out hb10)
        clear hb10
        go_wp2_with fail
        go_ret
        exact ⟨rfl, HB0.out.trans (HB10.out.mono HB0.out.size)⟩
end Go.Proofs.YtdnhbledndgbcaaGreat
