/-
  The statement LogTurns: wherever the power goes out within a Begin of a later turn, the area then holds what it held, or just the first record of that turn, or something of an elder turn, or nothing; when the Begin is done, just that record. Condition: the row's own.
-/
import Derived.Test.YtkbjhnlihnakkaaLgW
namespace Go.Proofs.Ytkbjhnlihnakkaa
open Go.RowKit

set_option maxRecDepth 100000 in
set_option maxHeartbeats 8000000 in
theorem logTurns_walk (y : Int) (A : Option Addr) (ps : List Piece) (c : Nat) (B : Option Addr) (lb : List UInt8) (cb : Nat) (z : Int) (C : Option Addr) (p : List Int) (cp : Nat) (w : World) (y0 : -9223372036854775808 ≤ y) (y1 : y ≤ 9223372036854775807) (hl : ps.length ≤ 9223372036854775807) (hs : SeenAll w A ps) (hc : ps.length ≤ c)
    (hlb : lb.length ≤ 140737488351232) (hsb : Seen w B lb) (hcb : lb.length ≤ cb) (_ : -9223372036854775808 ≤ z) (z1 : z ≤ 9223372036854775807) (hpl : p.length ≤ 9223372036854775807) (hps : Ints w C p) (hpb : ∀ x ∈ p, -9223372036854775808 ≤ x ∧ x ≤ 9223372036854775807) :
    Calls Try.prog 6 #[.int .i64 y, .slice A ps.length c, .slice B lb.length cb, .int .i64 z, .slice C p.length cp] w fun e w' => e = .returned (.bool true) ∧ Below w.heap.size w w' := by
  have HS := Lib.hid hs
  have HSB := Lib.hid hsb
  have HP := Lib.hid hps
  have HPB := Lib.hid hpb
  have HPL := Lib.hid hpl
  have HSH := Lib.hid (fun w' (hb : Below w.heap.size w w') => short_any A ps c w' (hs.below hb) hl)
  obtain ⟨m, hm⟩ : ∃ m, m = ps.length := ⟨_, rfl⟩
  obtain ⟨nb, hnb⟩ : ∃ nb, nb = lb.length := ⟨_, rfl⟩
  obtain ⟨np, hnp⟩ : ∃ np, np = p.length := ⟨_, rfl⟩
  have HM : Hid (ps.length = m) := hm.symm
  have HNB : Hid (lb.length = nb) := hnb.symm
  have HNP : Hid (np = p.length) := hnp
  obtain ⟨ok, hok⟩ : ∃ ok, ok = shortB ps := ⟨_, rfl⟩
  rw [← hok] at HSH
  rw [← hm] at HSH hc ⊢
  rw [← hnb] at hlb hcb ⊢
  rw [← hnp]
  have HOK := Lib.hid hok
  clear hs hm hl hok hsb hps hpb hpl hnb hnp
  by_cases hbad : ok = false ∨ 1000 < (nb : Int) ∨ y < 1 ∨ 60 < y
  · have hdone : (ok = false) ∨ (ok = true ∧ 1000 < (nb : Int)) ∨ (ok = true ∧ ¬ 1000 < (nb : Int) ∧ y < 1) ∨ (ok = true ∧ ¬ 1000 < (nb : Int) ∧ ¬ y < 1 ∧ 60 < y) := by
      by_cases t0 : ok = true
      rotate_left
      · exact .inl ((by simpa using t0))
      by_cases t1 : 1000 < (nb : Int)
      · exact .inr (.inl (⟨t0, t1⟩))
      by_cases t2 : y < 1
      · exact .inr (.inr (.inl (⟨t0, t1, t2⟩)))
      by_cases t3 : 60 < y
      · exact .inr (.inr (.inr (⟨t0, t1, t2, t3⟩)))
      exact absurd hbad (by simp only [t0, Bool.true_eq_false, false_or]; omega)
    clear hbad
    rcases hdone with rfl | ⟨rfl, g1⟩ | ⟨rfl, g1, g2⟩ | ⟨rfl, g1, g2, g3⟩
    all_goals
      go_enter Try.func6, Try.ntmps6
      go_wp2_with fail
      refine (awake_any _).mono ?_
      rintro e w1 ⟨rfl, hb1⟩
      have B1 := Lib.hid hb1
      clear hb1
      go_wp2_with fail
      refine (HSH.out _ B1.out).mono ?_
      rintro e w2 ⟨rfl, rfl⟩
      go_wp2_with fail
      all_goals go_ret
      all_goals exact ⟨rfl, B1.out⟩
  obtain ⟨n, rfl⟩ : ∃ n : Nat, y = (n : Int) := ⟨y.toNat, by omega⟩
  have hok1 : ok = true := by cases ok <;> simp_all
  subst hok1
  have n1 : 1 ≤ n := by omega
  have n2 : n ≤ 60 := by omega
  have hy1 : ¬ (n : Int) < 1 := by omega
  have hy2 : ¬ (60 : Int) < (n : Int) := by omega
  have hy3 : ¬ (1000 : Int) < (nb : Int) := by omega
  have hnb1 : nb ≤ 1000 := by omega
  clear hbad y0 y1 hlb
  go_enter Try.func6, Try.ntmps6
  go_wp2_with fail
  refine (awake_any _).mono ?_
  rintro e w1 ⟨rfl, hb1⟩
  have B1 := Lib.hid hb1
  clear hb1
  go_wp2_with fail
  refine (HSH.out _ B1.out).mono ?_
  rintro e w2 ⟨rfl, rfl⟩
  go_wp2_with fail
  refine (begun_any w1 n A ps m c HM.out (HS.out.below B1.out) HOK.out.symm n1 n2 hc).mono ?_
  rintro e w2 (⟨rfl, hb2⟩ | ⟨g, b, F, s, hs, AH, cH, rfl, hcH, hat⟩)
  · have B2 := Lib.hid (hop B1.out hb2)
    clear hb2
    go_wp2
    go_ret
    exact ⟨rfl, B2.out⟩
  have H := Lib.hid hat
  have HCH := Lib.hid hcH
  have B2 : Hid (Below w.heap.size w w2) := hop B1.out hat.below
  have HF : Hid (∀ q, F q → w.heap.size ≤ q) := fun q hq => Nat.le_trans B1.out.size (hat.new q hq)
  have HBB : Hid (w.heap.size ≤ b) := Nat.le_trans B1.out.size hat.newb
  have HFW : Hid ((s.arm z).Few 800) := hat.few.arm z z1
  have HLA : Hid (LogHas (s.arm z) n 1 (bytesOf hs)) := hat.has.arm z
  have HARM := Lib.hid (arm_any w2 g F s z hat.disk)
  clear hat hcH hc
  go_wp2_with fail
  refine HARM.out.mono ?_
  rintro e w3 ⟨rfl, F3, h31, h32, h33⟩
  have D3 := Lib.hid h31
  have HF3 : Hid (∀ q, F3 q → w.heap.size ≤ q) := fun q hq => (h33 q hq).elim (HF.out q) (Nat.le_trans B2.out.size)
  have B3 : Hid (Below w.heap.size w w3) := h32.below B2.out HF.out
  have L3 : Hid (Blk w3 b (lgCells g (Lg.found 0 n 1 (bytesOf hs))) 74) := h32.blk H.out.blk H.out.not
  have N3 : Hid (¬ F3 b) := fun hf => (h33 b hf).elim H.out.not (fun h => by have := H.out.blk.lt; omega)
  have R3 : Hid (RowAway w3 (fun q => F3 q ∨ q = b) AH hs) := H.out.row.moved (h32.mono (fun _ h => .inl h)) (fun q hq => hq.elim (fun h => (h33 q h).elim (fun h => .inl (.inl h)) .inr) (fun h => .inl (.inr h)))
  have HEH : Hid (EachSeen w hs) := fun q hq => HS.out.each q (H.out.mem q hq)
  have HHL : Hid (hs.length ≤ 40) := H.out.le
  generalize s.arm z = s1 at *
  clear h31 h32 h33 HARM H B1 B2 HF HSH
  have HBN := Lib.hid (fun p => turns_lists HLA.out n1 lb p)
  have HFN : Hid ((Lg.new 0 n 9).Fits s1) := ⟨n1, by show 0 + n ≤ _; have := HLA.out.len; omega, Nat.zero_le _, Nat.le_refl _, by show (1 : Int) ≤ 9; decide, by show (9 : Int) ≤ 1152921504606846976; decide⟩
  have hnx := HFN.out.next (d := lb)
  have HOK2 : Hid (((Lg.new 0 n 9).dsk s1 lb).Ok) := hnx.2.1 HLA.out.ok
  have hlen2 : n ≤ (((Lg.new 0 n 9).dsk s1 lb).crash (pickOf p)).K.length := by rw [crash_len, hnx.2.2]; exact HLA.out.len
  have HON : Hid (OnDisk (((Lg.new 0 n 9).dsk s1 lb).crash (pickOf p)) 0 (n : Int)) := ⟨by decide, by omega, by omega⟩
  have HOD : Hid (OnDisk s1 0 (n : Int) ∧ (1 : Int) ≤ 9 ∧ (9 : Int) ≤ 1152921504606846976) := ⟨HLA.out.on n1, by decide, by decide⟩
  have HT := Lib.hid (HBN.out (pickOf p))
  clear hnx hlen2 HBN HFN
  obtain ⟨E, hE⟩ : ∃ E, E = (Lg.new 0 n 9).err s1 lb := ⟨_, rfl⟩
  rw [← hE] at HT
  have HE := Lib.hid hE
  clear hE
  obtain ⟨s2, hs2⟩ : ∃ s2, s2 = (Lg.new 0 n 9).dsk s1 lb := ⟨_, rfl⟩
  rw [← hs2] at HT HON HOK2
  have HS2 := Lib.hid hs2
  clear hs2
  go_wp2_with fail
  refine (begin_any w3 g F3 s1 0 (n : Int) 9 B lb nb cb 800 D3.out (HSB.out.below B3.out) HNB.out (by omega) HFW.out (by decide) (by decide) (by decide)).mono ?_
  rintro e w4 (⟨h, _⟩ | ⟨_, h, rfl, hmv⟩ | ⟨_, h, b4, rfl, hb4, F4, h41, h42, h43, h44, h45⟩)
  · exact absurd HOD.out h
  · change ¬ (Lg.new 0 n 9).err s1 lb = 0 at h
    change Moved w3 g F3 ((Lg.new 0 n 9).dsk s1 lb) w4 at hmv
    rw [← HE.out] at h
    rw [← HS2.out] at hmv
    rw [show (Lg.new (0 : Int).toNat ((n : Int)).toNat 9).err s1 lb = E from HE.out.symm]
    have hE0 : (E == 0) = false := by rw [beq_eq_false_iff_ne]; exact h
    have hE1 : ¬ E = 0 := h
    have HH := Lib.hid h
    obtain ⟨F4, h41, h42, h43⟩ := hmv
    have HF4 : Hid (∀ q, F4 q → w.heap.size ≤ q) := fun q hq => (h43 q hq).elim (HF3.out q) (Nat.le_trans B3.out.size)
    have B4 : Hid (Below w.heap.size w w4) := h42.below B3.out HF3.out
    have HCR := Lib.hid (crash_own (d := cp) h41 B4.out HF4.out HP.out HNP.out HPL.out HPB.out)
    clear h41 h42 h43 h D3 HF3 B3 L3 N3 R3
    go_wp2_with fail
    refine HCR.out.mono ?_
    rintro e w5 ⟨rfl, F5, h51, h52, h53⟩
    have D5 := Lib.hid h51
    have B5 : Hid (Below w.heap.size w w5) := h52.below B4.out HF4.out
    clear h51 h52 h53 HCR HF4 B4
    go_wp2_with fail
    refine (open_any w5 g F5 _ 0 (n : Int) D5.out (by decide) (by decide)).mono ?_
    rintro e w6 (⟨h, _⟩ | ⟨_, h, _⟩ | ⟨_, _, ho, rfl, hb6⟩ | ⟨_, _, gen, ds, ho, b6, qs, v, rfl, hqs, _, hlg, hrec, hb6⟩)
    · exact absurd HON.out h
    · cases h
    · have B6 := Lib.hid (hop B5.out hb6)
      change openL ((s2.crash (pickOf p)).bytes 0 n) = none at ho
      have hE5 : E = 5 := by
        rcases HT.out.2.2 HH.out with h1 | ⟨_, h1⟩ | h1
        · exact h1.2
        · rw [h1] at ho; cases ho
        · rw [h1] at ho; cases ho
      subst hE5
      clear ho hb6
      go_wp2
      go_ret
      exact ⟨rfl, B6.out⟩
    · change openL ((s2.crash (pickOf p)).bytes 0 n) = some (gen, ds) at ho
      have hcase : gen = 1 ∨ (gen = 9 ∧ ds = [lb]) := by
        rcases HT.out.2.2 HH.out with ⟨h1, _⟩ | ⟨es, h1⟩ | h1
        · rw [h1] at ho; cases ho
        · rw [h1] at ho; injection ho with ho; injection ho with ho _; exact .inl ho.symm
        · rw [h1] at ho; injection ho with ho; injection ho with ho1 ho2; exact .inr ⟨ho1.symm, ho2.symm⟩
      obtain ⟨A6, c6, hv⟩ := hrec.form
      subst hv
      have HQS := Lib.hid hqs
      have SA := Lib.hid hrec.shown
      have HLG : Hid (Blk w6 b6 (lgCells g (Lg.found 0 n gen ds)) 74) := hlg
      have B6 := Lib.hid (hop B5.out hb6)
      have hql : qs.length ≤ 262144 := by
        have hf := scan_fits gen _ ((s2.crash (pickOf p)).bytes 0 n) 0 (Nat.le_refl _)
        have ho2 := (open_some ho).2.2.1
        have hs3 := framesL_seq gen (scanL gen 0 ((s2.crash (pickOf p)).bytes 0 n)) 0
        have hbl := bytes_length (HOK2.out.crash (pickOf p)) (f := 0) (N := n) (by have h1 := HON.out.2.2; omega)
        rw [← length_bytesOf, hqs, ho2]
        omega
      clear hqs hrec hlg hb6 ho
      rcases hcase with rfl | ⟨rfl, rfl⟩
      · go_wp2_with fail
        refine (gen_any HLG.out).mono ?_
        rintro e w7 ⟨rfl, hw⟩
        obtain rfl := hw.symm
        have hg1 : (Lg.found 0 n 1 ds).gen = 1 := rfl
        rw [hg1]
        go_wp2_with fail
        refine (gen_any HLG.out).mono ?_
        rintro e w7 ⟨rfl, hw⟩
        obtain rfl := hw.symm
        rw [hg1]
        go_wp2
        go_ret
        exact ⟨rfl, B6.out⟩
      · go_wp2_with fail
        refine (gen_any HLG.out).mono ?_
        rintro e w7 ⟨rfl, hw⟩
        obtain rfl := hw.symm
        have hg1 : (Lg.found 0 n 9 [lb]).gen = 9 := rfl
        rw [hg1]
        have QB := Lib.hid (one_seen (c := cb) (HSB.out.below B6.out) HNB.out (by omega) hcb)
        have BQ := Lib.hid ((Below.refl w6.heap.size w6).alloc (Nat.le_refl _) (.cells #[.slice B nb cb] 22))
        go_wp2_with fail
        refine (texts_same A6 qs qs.length c6 (some ⟨w6.heap.size, 0, none⟩) _ 1 1 _ rfl rfl (SA.out.below BQ.out) QB.out (by omega) (by decide)).mono ?_
        rintro e w8 ⟨rfl, hb8⟩
        have hq : decide (bytesOf qs = bytesOf [(B, lb, cb)]) = true := decide_eq_true (by rw [HQS.out]; rfl)
        rw [hq]
        have B8 := Lib.hid (hop B6.out (hop BQ.out hb8))
        clear hq hb8
        go_wp2
        go_ret
        exact ⟨rfl, B8.out⟩
  · change (Lg.new 0 n 9).err s1 lb = 0 at h
    change DiskAt w4 g F4 ((Lg.new 0 n 9).dsk s1 lb) at h41
    rw [← HE.out] at h
    rw [← HS2.out] at h41
    have HH := Lib.hid (HT.out.2.1 h)
    have HF4 : Hid (∀ q, F4 q → w.heap.size ≤ q) := fun q hq => (h45 q hq).elim (HF3.out q) (Nat.le_trans B3.out.size)
    have B4 : Hid (Below w.heap.size w w4) := h44.below B3.out HF3.out
    have HCR := Lib.hid (crash_own (d := cp) h41 B4.out HF4.out HP.out HNP.out HPL.out HPB.out)
    clear h41 h42 h43 h44 h45 hb4 h D3 HF3 B3 L3 N3 R3 HT HE
    go_wp2_with fail
    refine HCR.out.mono ?_
    rintro e w5 ⟨rfl, F5, h51, h52, h53⟩
    have D5 := Lib.hid h51
    have B5 : Hid (Below w.heap.size w w5) := h52.below B4.out HF4.out
    clear h51 h52 h53 HCR HF4 B4
    go_wp2_with fail
    refine (open_any w5 g F5 _ 0 (n : Int) D5.out (by decide) (by decide)).mono ?_
    rintro e w6 (⟨h, _⟩ | ⟨_, h, _⟩ | ⟨_, _, ho, _⟩ | ⟨_, _, gen, ds, ho, b6, qs, v, rfl, hqs, _, hlg, hrec, hb6⟩)
    · exact absurd HON.out h
    · cases h
    · change openL ((s2.crash (pickOf p)).bytes 0 n) = none at ho
      have := HH.out
      rw [ho] at this; cases this
    · change openL ((s2.crash (pickOf p)).bytes 0 n) = some (gen, ds) at ho
      have hgd := HH.out
      rw [ho] at hgd
      injection hgd with hgd
      injection hgd with hg1 hd1
      subst hg1 hd1
      obtain ⟨A6, c6, hv⟩ := hrec.form
      subst hv
      have hql : qs.length = 1 := by rw [← length_bytesOf, hqs]; rfl
      rw [hql]
      have HQL := Lib.hid hql
      have HQS := Lib.hid hqs
      have SA := Lib.hid hrec.shown
      have HLG : Hid (Blk w6 b6 (lgCells g (Lg.found 0 n 9 [lb])) 74) := hlg
      have B6 := Lib.hid (hop B5.out hb6)
      clear hqs hrec hlg hb6 ho hql
      go_wp2_with fail
      refine (gen_any HLG.out).mono ?_
      rintro e w7 ⟨rfl, hw⟩
      obtain rfl := hw.symm
      have hg1 : (Lg.found 0 n 9 [lb]).gen = 9 := rfl
      rw [hg1]
      have QB := Lib.hid (one_seen (c := cb) (HSB.out.below B6.out) HNB.out (by omega) hcb)
      have BQ := Lib.hid ((Below.refl w6.heap.size w6).alloc (Nat.le_refl _) (.cells #[.slice B nb cb] 22))
      go_wp2_with fail
      refine (texts_same A6 qs 1 c6 (some ⟨w6.heap.size, 0, none⟩) _ 1 1 _ HQL.out rfl (SA.out.below BQ.out) QB.out (by decide) (by decide)).mono ?_
      rintro e w8 ⟨rfl, hb8⟩
      have hq : decide (bytesOf qs = bytesOf [(B, lb, cb)]) = true := decide_eq_true (by rw [HQS.out]; rfl)
      rw [hq]
      have B8 := Lib.hid (hop B6.out (hop BQ.out hb8))
      clear hq hb8
      go_wp2
      go_ret
      exact ⟨rfl, B8.out⟩
end Go.Proofs.Ytkbjhnlihnakkaa
