/-
  The statement LogWhole, the stage's theorem: wherever the power goes out within an Append, and whatever picks keep, the log is found as it was, or with that record whole; with it, if the Append was told to be done. Condition: the row's own.
-/
import Derived.Test.YtkbjhnlihnakkaaLgW
namespace Go.Proofs.Ytkbjhnlihnakkaa
open Go.RowKit

theorem MadeAll.alloc {f : TypeId} {w0 w : World} {ps : List Piece} {v : Value} (h : MadeAll f w0 ps v w) (o : Obj) : MadeAll f w0 ps v (w.alloc o) := ⟨h.1.alloc o, h.2.alloc h.2.size o⟩
theorem MadeAll.named {f : TypeId} {w0 w : World} {ps : List Piece} {v : Value} (h : MadeAll f w0 ps v w) (hp : EachSeen w ps) {n : Nat} (hn : ps.length = n) : ∃ A c, v = .slice A n c ∧ SeenAll w A ps := by
  obtain ⟨A, c, h1, h2, _⟩ := h.shown hp
  exact ⟨A, c, by rw [h1, hn], h2⟩
/-- what is asked of the answers at last -/
def WholeB (e f : Int) (a c t : Bool) : Prop := (e = 0 ∧ f = 0 ∧ t = true) ∨ (e = 0 ∧ f = 4 ∧ (c = true ∨ t = true)) ∨ (e = 0 ∧ f = 5 ∧ (c = true ∨ t = true)) ∨ (e = 4 ∧ f = 4 ∧ a = true) ∨ (e = 5 ∧ f = 5 ∧ (a = true ∨ c = true))
theorem whole_bools {e f : Int} {ds x : List (List UInt8)} {d : List UInt8} (h : WholeL e f ds x d) : WholeB e f (decide (x = ds)) (decide (x = ds ++ [d])) (decide (x = ds ++ [d] ++ [d])) := by
  rcases h with ⟨h1, h2, h3⟩ | ⟨h1, h2, h3⟩ | ⟨h1, h2, h3⟩ | ⟨h1, h2, h3⟩
  · exact .inl ⟨h1, h2, decide_eq_true h3⟩
  · have h4 : decide (x = ds ++ [d]) = true ∨ decide (x = ds ++ [d] ++ [d]) = true := h3.elim (fun h => .inl (decide_eq_true h)) (fun h => .inr (decide_eq_true h))
    rcases h2 with h2 | h2
    · exact .inr (.inl ⟨h1, h2, h4⟩)
    · exact .inr (.inr (.inl ⟨h1, h2, h4⟩))
  · exact .inr (.inr (.inr (.inl ⟨h1, h2, decide_eq_true h3⟩)))
  · exact .inr (.inr (.inr (.inr ⟨h1, h2, h3.elim (fun h => .inl (decide_eq_true h)) (fun h => .inr (decide_eq_true h))⟩)))

set_option maxRecDepth 100000 in
set_option maxHeartbeats 8000000 in
theorem logWhole_walk (y : Int) (A : Option Addr) (ps : List Piece) (c : Nat) (B : Option Addr) (lb : List UInt8) (cb : Nat) (z : Int) (C : Option Addr) (p : List Int) (cp : Nat) (w : World) (y0 : -9223372036854775808 ≤ y) (y1 : y ≤ 9223372036854775807) (hl : ps.length ≤ 9223372036854775807) (hs : SeenAll w A ps) (hc : ps.length ≤ c)
    (hlb : lb.length ≤ 140737488351232) (hsb : Seen w B lb) (hcb : lb.length ≤ cb) (_ : -9223372036854775808 ≤ z) (z1 : z ≤ 9223372036854775807) (hpl : p.length ≤ 9223372036854775807) (hps : Ints w C p) (hpb : ∀ x ∈ p, -9223372036854775808 ≤ x ∧ x ≤ 9223372036854775807) :
    Calls Try.prog 4 #[.int .i64 y, .slice A ps.length c, .slice B lb.length cb, .int .i64 z, .slice C p.length cp] w fun e w' => e = .returned (.bool true) ∧ Below w.heap.size w w' := by
  have HS := Lib.hid hs
  have HSB := Lib.hid hsb
  have HP := Lib.hid hps
  have HPB := Lib.hid hpb
  have HPL := Lib.hid hpl
  have HSH := Lib.hid (fun w' (hb : Below w.heap.size w w') => short_any A ps c w' (hs.below hb) hl)
  obtain ⟨m, hm⟩ : ∃ m, m = ps.length := ⟨_, rfl⟩
  obtain ⟨nb, hnb⟩ : ∃ nb, nb = lb.length := ⟨_, rfl⟩
  obtain ⟨np, hnp⟩ : ∃ np, np = p.length := ⟨_, rfl⟩
  have HM : Hid (ps.length = m) := hm.symm
  have HNB : Hid (lb.length = nb) := hnb.symm
  have HNP : Hid (np = p.length) := hnp
  obtain ⟨ok, hok⟩ : ∃ ok, ok = shortB ps := ⟨_, rfl⟩
  rw [← hok] at HSH
  rw [← hm] at HSH hc ⊢
  rw [← hnb] at hlb hcb ⊢
  rw [← hnp]
  have HOK := Lib.hid hok
  clear hs hm hl hok hsb hps hpb hpl hnb hnp
  by_cases hbad : ok = false ∨ 1000 < (nb : Int) ∨ y < 1 ∨ 60 < y
  · have hdone : (ok = false) ∨ (ok = true ∧ 1000 < (nb : Int)) ∨ (ok = true ∧ ¬ 1000 < (nb : Int) ∧ y < 1) ∨ (ok = true ∧ ¬ 1000 < (nb : Int) ∧ ¬ y < 1 ∧ 60 < y) := by
      by_cases t0 : ok = true
      rotate_left
      · exact .inl ((by simpa using t0))
      by_cases t1 : 1000 < (nb : Int)
      · exact .inr (.inl (⟨t0, t1⟩))
      by_cases t2 : y < 1
      · exact .inr (.inr (.inl (⟨t0, t1, t2⟩)))
      by_cases t3 : 60 < y
      · exact .inr (.inr (.inr (⟨t0, t1, t2, t3⟩)))
      exact absurd hbad (by simp only [t0, Bool.true_eq_false, false_or]; omega)
    clear hbad
    rcases hdone with rfl | ⟨rfl, g1⟩ | ⟨rfl, g1, g2⟩ | ⟨rfl, g1, g2, g3⟩
    all_goals
      go_enter Try.func4, Try.ntmps4
      go_wp2_with fail
      refine (awake_any _).mono ?_
      rintro e w1 ⟨rfl, hb1⟩
      have B1 := Lib.hid hb1
      clear hb1
      go_wp2_with fail
      refine (HSH.out _ B1.out).mono ?_
      rintro e w2 ⟨rfl, rfl⟩
      go_wp2_with fail
      all_goals go_ret
      all_goals exact ⟨rfl, B1.out⟩
  obtain ⟨n, rfl⟩ : ∃ n : Nat, y = (n : Int) := ⟨y.toNat, by omega⟩
  have hok1 : ok = true := by cases ok <;> simp_all
  subst hok1
  have n1 : 1 ≤ n := by omega
  have n2 : n ≤ 60 := by omega
  have hy1 : ¬ (n : Int) < 1 := by omega
  have hy2 : ¬ (60 : Int) < (n : Int) := by omega
  have hy3 : ¬ (1000 : Int) < (nb : Int) := by omega
  have hnb1 : nb ≤ 1000 := by omega
  clear hbad y0 y1 hlb
  go_enter Try.func4, Try.ntmps4
  go_wp2_with fail
  refine (awake_any _).mono ?_
  rintro e w1 ⟨rfl, hb1⟩
  have B1 := Lib.hid hb1
  clear hb1
  go_wp2_with fail
  refine (HSH.out _ B1.out).mono ?_
  rintro e w2 ⟨rfl, rfl⟩
  go_wp2_with fail
  refine (begun_any w1 n A ps m c HM.out (HS.out.below B1.out) HOK.out.symm n1 n2 hc).mono ?_
  rintro e w2 (⟨rfl, hb2⟩ | ⟨g, b, F, s, hs, AH, cH, rfl, hcH, hat⟩)
  · have B2 := Lib.hid (hop B1.out hb2)
    clear hb2
    go_wp2
    go_ret
    exact ⟨rfl, B2.out⟩
  have H := Lib.hid hat
  have HCH := Lib.hid hcH
  have B2 : Hid (Below w.heap.size w w2) := hop B1.out hat.below
  have HF : Hid (∀ q, F q → w.heap.size ≤ q) := fun q hq => Nat.le_trans B1.out.size (hat.new q hq)
  have HBB : Hid (w.heap.size ≤ b) := Nat.le_trans B1.out.size hat.newb
  have HFW : Hid ((s.arm z).Few 800) := hat.few.arm z z1
  have HLA : Hid (LogHas (s.arm z) n 1 (bytesOf hs)) := hat.has.arm z
  have HARM := Lib.hid (arm_any w2 g F s z hat.disk)
  clear hat hcH hc
  go_wp2_with fail
  refine HARM.out.mono ?_
  rintro e w3 ⟨rfl, F3, h31, h32, h33⟩
  have D3 := Lib.hid h31
  have HF3 : Hid (∀ q, F3 q → w.heap.size ≤ q) := fun q hq => (h33 q hq).elim (HF.out q) (Nat.le_trans B2.out.size)
  have B3 : Hid (Below w.heap.size w w3) := h32.below B2.out HF.out
  have L3 : Hid (Blk w3 b (lgCells g (Lg.found 0 n 1 (bytesOf hs))) 74) := h32.blk H.out.blk H.out.not
  have N3 : Hid (¬ F3 b) := fun hf => (h33 b hf).elim H.out.not (fun h => by have := H.out.blk.lt; omega)
  have R3 : Hid (RowAway w3 (fun q => F3 q ∨ q = b) AH hs) := H.out.row.moved (h32.mono (fun _ h => .inl h)) (fun q hq => hq.elim (fun h => (h33 q h).elim (fun h => .inl (.inl h)) .inr) (fun h => .inl (.inr h)))
  have HEH : Hid (EachSeen w hs) := fun q hq => HS.out.each q (H.out.mem q hq)
  have HHL : Hid (hs.length ≤ 40) := H.out.le
  generalize s.arm z = s1 at *
  clear h31 h32 h33 HARM H B1 B2 HF HSH
  have HFT := Lib.hid (found_fits HLA.out n1)
  have HWL := Lib.hid (whole_lists HLA.out n1 lb (pickOf p))
  have hnx := HFT.out.next (d := lb)
  have hnx2 := hnx.1.next (d := lb)
  have HOK2 := Lib.hid (hnx.2.1 HLA.out.ok)
  have HOK3 := Lib.hid (hnx2.2.1 HOK2.out)
  have HFT2 := Lib.hid hnx.1
  have hcl := code_len (Lg.found 0 n 1 (bytesOf hs)) (d := lb) (by rw [HNB.out]; exact hnb1)
  have HFW2 : Hid (((Lg.found 0 n 1 (bytesOf hs)).dsk s1 lb).Few 900) := (Lg.few (d := lb) HFT.out HLA.out.ok HFW.out).mono (by omega)
  have hklen : n ≤ ((((Lg.found 0 n 1 (bytesOf hs)).next s1 lb).dsk ((Lg.found 0 n 1 (bytesOf hs)).dsk s1 lb) lb).crash (pickOf p)).K.length := by rw [crash_len, hnx2.2.2, hnx.2.2]; exact HLA.out.len
  have HON : Hid (OnDisk ((((Lg.found 0 n 1 (bytesOf hs)).next s1 lb).dsk ((Lg.found 0 n 1 (bytesOf hs)).dsk s1 lb) lb).crash (pickOf p)) 0 (n : Int)) := ⟨by decide, by omega, by omega⟩
  have HAP := Lib.hid (append_any w3 g b F3 s1 _ B lb nb cb 800 ⟨D3.out, L3.out, N3.out, HFT.out⟩ (HSB.out.below B3.out) HNB.out (by omega) HFW.out (by decide))
  clear hnx hnx2 hcl hklen
  obtain ⟨E1, hE1⟩ : ∃ E, E = (Lg.found 0 n 1 (bytesOf hs)).err s1 lb := ⟨_, rfl⟩
  obtain ⟨s2, hs2⟩ : ∃ s2, s2 = (Lg.found 0 n 1 (bytesOf hs)).dsk s1 lb := ⟨_, rfl⟩
  obtain ⟨l2, hl2⟩ : ∃ l2, l2 = (Lg.found 0 n 1 (bytesOf hs)).next s1 lb := ⟨_, rfl⟩
  rw [← hs2, ← hl2] at HON HWL HFT2 HOK3
  rw [← hE1] at HWL
  rw [← hE1, ← hs2, ← hl2] at HAP
  rw [← hs2] at HOK2 HFW2
  obtain ⟨E2, hE2⟩ : ∃ E, E = l2.err s2 lb := ⟨_, rfl⟩
  obtain ⟨s3, hs3⟩ : ∃ s3, s3 = l2.dsk s2 lb := ⟨_, rfl⟩
  rw [← hs3] at HON HWL HOK3
  rw [← hE2] at HWL
  have HE2 := Lib.hid hE2
  have HS3 := Lib.hid hs3
  clear hE1 hs2 hl2 hE2 hs3
  go_wp2_with fail
  refine HAP.out.mono ?_
  rintro e w4 ⟨rfl, F4, h41, h42, h43, h44, h45⟩
  have D4 := Lib.hid h41
  have L4 := Lib.hid h42
  have N4 := Lib.hid h43
  have HF4 : Hid (∀ q, F4 q → w.heap.size ≤ q) := fun q hq => (h45 q hq).elim (HF3.out q) (Nat.le_trans B3.out.size)
  have B4 : Hid (Below w.heap.size w w4) := h44.below B3.out (fun q hq => hq.elim (HF3.out q) (fun e => by rw [e]; exact HBB.out))
  have R4 : Hid (RowAway w4 (fun q => F4 q ∨ q = b) AH hs) := R3.out.moved h44 (fun q hq => hq.elim (fun h => (h45 q h).elim (fun h => .inl (.inl h)) .inr) (fun h => .inl (.inr h)))
  have HAP2 := Lib.hid (append_any w4 g b F4 s2 l2 B lb nb cb 900 ⟨D4.out, L4.out, N4.out, HFT2.out⟩ (HSB.out.below B4.out) HNB.out (by omega) HFW2.out (by decide))
  rw [← HE2.out, ← HS3.out] at HAP2
  clear h41 h42 h43 h44 h45 HAP D3 L3 N3 R3 HF3 B3
  go_wp2_with fail
  refine HAP2.out.mono ?_
  rintro e w5 ⟨rfl, F5, h51, h52, h53, h54, h55⟩
  have D5 := Lib.hid h51
  have HF5 : Hid (∀ q, F5 q → w.heap.size ≤ q) := fun q hq => (h55 q hq).elim (HF4.out q) (Nat.le_trans B4.out.size)
  have B5 : Hid (Below w.heap.size w w5) := h54.below B4.out (fun q hq => hq.elim (HF4.out q) (fun e => by rw [e]; exact HBB.out))
  have R5 : Hid (RowAway w5 (fun q => F5 q ∨ q = b) AH hs) := R4.out.moved h54 (fun q hq => hq.elim (fun h => (h55 q h).elim (fun h => .inl (.inl h)) .inr) (fun h => .inl (.inr h)))
  have HCR := Lib.hid (crash_own (d := cp) D5.out B5.out HF5.out HP.out HNP.out HPL.out HPB.out)
  clear h51 h52 h53 h54 h55 HAP2 D4 L4 N4 R4 HF4 B4
  go_wp2_with fail
  refine HCR.out.mono ?_
  rintro e w6 ⟨rfl, F6, h61, h62, h63⟩
  have D6 := Lib.hid h61
  have B6 : Hid (Below w.heap.size w w6) := h62.below B5.out HF5.out
  have R6 : Hid (RowAway w6 (fun q => F6 q) AH hs) := R5.out.moved (h62.mono (fun _ h => .inl h)) (fun q hq => (h63 q hq).elim (fun h => .inl (.inl h)) .inr)
  clear h61 h62 h63 HCR HF5 B5 D5 R5
  go_wp2_with fail
  refine (open_any w6 g F6 _ 0 (n : Int) D6.out (by decide) (by decide)).mono ?_
  obtain ⟨x, hx, hwl⟩ := HWL.out
  have HX := Lib.hid hx
  have HWB := Lib.hid (whole_bools hwl)
  clear hx hwl HWL
  rintro e w7 (⟨h, _⟩ | ⟨_, h, _⟩ | ⟨_, _, ho, _⟩ | ⟨_, _, gen, ds, ho, b6, qs, v, rfl, hqs, _, _, hrec, hb6⟩)
  · exact absurd HON.out h
  · cases h
  · change openL ((s3.crash (pickOf p)).bytes 0 n) = none at ho
    have := HX.out
    rw [ho] at this; cases this
  change openL ((s3.crash (pickOf p)).bytes 0 n) = some (gen, ds) at ho
  have hgd := HX.out
  rw [ho] at hgd
  injection hgd with hgd
  injection hgd with hg1 hd1
  subst hg1 hd1
  obtain ⟨A7, c7, hv⟩ := hrec.form
  subst hv
  have hql : qs.length ≤ 262144 := by
    have hf := scan_fits 1 _ ((s3.crash (pickOf p)).bytes 0 n) 0 (Nat.le_refl _)
    have ho2 := (open_some ho).2.2.1
    have hs3 := framesL_seq 1 (scanL 1 0 ((s3.crash (pickOf p)).bytes 0 n)) 0
    have hbl := bytes_length (HOK3.out.crash (pickOf p)) (f := 0) (N := n) (by have h1 := HON.out.2.2; omega)
    rw [← length_bytesOf, hqs, ho2]
    omega
  have HQS := Lib.hid hqs
  have SA := Lib.hid hrec.shown
  have B7 := Lib.hid (hop B6.out hb6)
  have R7 := Lib.hid (R6.out.still hb6)
  have HB7 := Lib.hid hb6
  obtain ⟨nq, hnq⟩ : ∃ nq, nq = qs.length := ⟨_, rfl⟩
  rw [← hnq] at hql ⊢
  have HNQ : Hid (qs.length = nq) := hnq.symm
  have SH7 := Lib.hid (R7.out.shown (HEH.out.below B7.out))
  have EB : Hid (∀ W, Below w.heap.size w W → EachSeen W [(B, lb, cb)]) := fun W hb => fun q hq => by
    rw [List.mem_singleton.1 hq]
    exact ⟨HSB.out.below hb, by show lb.length ≤ cb; rw [HNB.out]; exact hcb, by show lb.length ≤ _; rw [HNB.out]; omega⟩
  obtain ⟨nh, hnh⟩ : ∃ nh, nh = hs.length := ⟨_, rfl⟩
  have hnh40 : nh ≤ 40 := by rw [hnh]; exact HHL.out
  rw [← hnh]
  have HNH : Hid (hs.length = nh) := hnh.symm
  rw [← HQS.out] at HWB
  obtain ⟨ta, hta⟩ : ∃ ta, ta = decide (bytesOf qs = bytesOf hs) := ⟨_, rfl⟩
  obtain ⟨tc, htc⟩ : ∃ tc, tc = decide (bytesOf qs = bytesOf hs ++ [lb]) := ⟨_, rfl⟩
  obtain ⟨tt, htt⟩ : ∃ tt, tt = decide (bytesOf qs = bytesOf hs ++ [lb] ++ [lb]) := ⟨_, rfl⟩
  rw [← hta, ← htc, ← htt] at HWB
  have TA := Lib.hid hta
  have TC := Lib.hid htc
  have TT := Lib.hid htt
  obtain ⟨iB, hiB, hzB, hsB, hbB⟩ := info_parts infoBL
  have HWB' := HWB.out
  clear hqs hrec hb6 ho hnq hnh hta htc htt HX HON HOK3 HOK2 R6 D6 B6 R7
  have hef : (E1 = 0 ∧ E2 = 0) ∨ (E1 = 0 ∧ E2 = 4) ∨ (E1 = 0 ∧ E2 = 5) ∨ (E1 = 4 ∧ E2 = 4) ∨ (E1 = 5 ∧ E2 = 5) := by
    rcases HWB' with h | h | h | h | h
    · exact .inl ⟨h.1, h.2.1⟩
    · exact .inr (.inl ⟨h.1, h.2.1⟩)
    · exact .inr (.inr (.inl ⟨h.1, h.2.1⟩))
    · exact .inr (.inr (.inr (.inl ⟨h.1, h.2.1⟩)))
    · exact .inr (.inr (.inr (.inr ⟨h.1, h.2.1⟩)))
  clear HWB'
  rcases hef with ⟨rfl, rfl⟩ | ⟨rfl, rfl⟩ | ⟨rfl, rfl⟩ | ⟨rfl, rfl⟩ | ⟨rfl, rfl⟩
  all_goals
    go_wp2_with (at_builtin; refine wpList_append_all _ rfl (.const (.slice none 0 0)) (.tmp 95) 42 rfl 22 iB (.slice none 0 0) Try.underlying42 hiB hzB hsB hbB rfl w7 [] (.slice none 0 0) AH hs nh cH rfl rfl HNH.out (MadeAll.nil _ _) SH7.out (by show 0 + nh ≤ _; omega) ?_)
    intro v8 w8 hm8
    have M8 : Hid (MadeAll 22 w7 hs v8 w8) := hm8
    have B8 := Lib.hid (hop B7.out hm8.2)
    have HB8 := Lib.hid hm8.2
    have O8 := Lib.hid (one_seen (c := cb) (HSB.out.below B8.out) HNB.out (by omega) hcb)
    clear hm8
    go_wp2_with (at_builtin; refine wpList_append_all _ rfl (.tmp 96) (.tmp 98) 42 rfl 22 iB (.slice none 0 0) Try.underlying42 hiB hzB hsB hbB rfl w7 hs v8 (some ⟨w8.heap.size, 0, none⟩) [(B, lb, cb)] 1 1 rfl rfl rfl (M8.out.alloc _) O8.out (by rw [HNH.out]; omega) ?_)
    intro v9 w9 hm9
    obtain ⟨h1, hh1⟩ : ∃ h1, h1 = hs ++ [(B, lb, cb)] := ⟨_, rfl⟩
    rw [← hh1] at hm9
    have HH1 := Lib.hid hh1
    have HN9 : Hid (h1.length = nh + 1) := by show _ = _; rw [hh1, List.length_append, HNH.out]; rfl
    have HBO : Hid (bytesOf h1 = bytesOf hs ++ [lb]) := by show _ = _; rw [hh1]; simp [bytesOf]
    have e9 : EachSeen w9 h1 := by rw [hh1]; exact (HEH.out.below (hop B7.out hm9.2)).append (EB.out _ (hop B7.out hm9.2))
    have E9 := Lib.hid e9
    clear hh1 e9
    have B9 := Lib.hid (hop B7.out hm9.2)
    have HB9 := Lib.hid hm9.2
    obtain ⟨A9, c9, hv9, hs9⟩ := hm9.named E9.out (n := nh + 1) HN9.out
    subst hv9
    have S9 := Lib.hid hs9
    clear hm9 hs9 M8 O8
    go_wp2_with (at_builtin; refine wpList_append_all _ rfl (.const (.slice none 0 0)) (.tmp 100) 42 rfl 22 iB (.slice none 0 0) Try.underlying42 hiB hzB hsB hbB rfl w9 [] (.slice none 0 0) A9 h1 (nh + 1) c9 rfl rfl HN9.out (MadeAll.nil _ _) S9.out (by show 0 + (nh + 1) ≤ _; omega) ?_)
    intro v10 w10 hm10
    have M10 : Hid (MadeAll 22 w9 h1 v10 w10) := hm10
    have B10 := Lib.hid (hop B9.out hm10.2)
    have O10 := Lib.hid (one_seen (c := cb) (HSB.out.below B10.out) HNB.out (by omega) hcb)
    clear hm10
    go_wp2_with (at_builtin; refine wpList_append_all _ rfl (.tmp 101) (.tmp 103) 42 rfl 22 iB (.slice none 0 0) Try.underlying42 hiB hzB hsB hbB rfl w9 h1 v10 (some ⟨w10.heap.size, 0, none⟩) [(B, lb, cb)] 1 1 rfl rfl rfl (M10.out.alloc _) O10.out (by rw [HN9.out]; omega) ?_)
    intro v11 w11 hm11
    have B11 := Lib.hid (hop B9.out hm11.2)
    have HB11 := Lib.hid hm11.2
    have E11 := Lib.hid ((E9.out.below hm11.2).append (EB.out _ B11.out))
    have HN11 : Hid ((h1 ++ [(B, lb, cb)]).length = nh + 1 + 1) := by show _ = _; rw [List.length_append, HN9.out]; rfl
    obtain ⟨A11, c11, hv11, hs11⟩ := hm11.named E11.out (n := nh + 1 + 1) HN11.out
    subst hv11
    have S11 := Lib.hid hs11
    clear hm11 hs11 M10 O10
    have SQ11 := Lib.hid (SA.out.below (hop HB9.out HB11.out))
    have SH11 := Lib.hid (SH7.out.below (hop HB9.out HB11.out))
    have S911 := Lib.hid (S9.out.below HB11.out)
    go_wp2_with fail
    refine (texts_same A7 qs nq c7 AH hs nh cH _ HNQ.out HNH.out SQ11.out SH11.out (by omega) (by omega)).mono ?_
    rintro e w12 ⟨rfl, hb12⟩
    rw [← TA.out]
    have HB12 := Lib.hid hb12
    clear hb12
    go_wp2_with fail
    refine (texts_same A7 qs nq c7 A9 h1 (nh + 1) c9 _ HNQ.out HN9.out (SQ11.out.below HB12.out) (S911.out.below HB12.out) (by omega) (by omega)).mono ?_
    rintro e w13 ⟨rfl, hb13⟩
    have e1 : decide (bytesOf qs = bytesOf h1) = tc := by
      rw [TC.out, HBO.out]
    rw [e1]
    have HB13 := Lib.hid (hop HB12.out hb13)
    clear hb13 e1
    go_wp2_with fail
    refine (texts_same A7 qs nq c7 A11 (h1 ++ [(B, lb, cb)]) (nh + 1 + 1) c11 _ HNQ.out HN11.out (SQ11.out.below HB13.out) (S11.out.below HB13.out) (by omega) (by omega)).mono ?_
    rintro e w14 ⟨rfl, hb14⟩
    have e1 : decide (bytesOf qs = bytesOf (h1 ++ [(B, lb, cb)])) = tt := by
      have : bytesOf (h1 ++ [(B, lb, cb)]) = bytesOf h1 ++ [lb] := by simp [bytesOf]
      rw [TT.out, this, HBO.out]
    rw [e1]
    have B14 := Lib.hid (hop B11.out (hop HB13.out hb14))
    clear hb14 e1 TA TC TT
  · have h := HWB.out
    have ht : tt = true := by unfold WholeB at h; simpa using h
    subst ht
    go_wp2
    go_ret
    exact ⟨rfl, B14.out⟩
  · have h := HWB.out
    have ht : tc = true ∨ tt = true := by unfold WholeB at h; simpa using h
    rcases ht with rfl | rfl
    · go_wp2
      go_ret
      exact ⟨rfl, B14.out⟩
    · cases tc
      all_goals go_wp2
      all_goals go_ret
      all_goals exact ⟨rfl, B14.out⟩
  · have h := HWB.out
    have ht : tc = true ∨ tt = true := by unfold WholeB at h; simpa using h
    rcases ht with rfl | rfl
    · go_wp2
      go_ret
      exact ⟨rfl, B14.out⟩
    · cases tc
      all_goals go_wp2
      all_goals go_ret
      all_goals exact ⟨rfl, B14.out⟩
  · have h := HWB.out
    have ht : ta = true := by unfold WholeB at h; simpa using h
    subst ht
    go_wp2
    go_ret
    exact ⟨rfl, B14.out⟩
  · have h := HWB.out
    have ht : ta = true ∨ tc = true := by unfold WholeB at h; simpa using h
    rcases ht with rfl | rfl
    · go_wp2
      go_ret
      exact ⟨rfl, B14.out⟩
    · cases ta
      all_goals go_wp2
      all_goals go_ret
      all_goals exact ⟨rfl, B14.out⟩
end Go.Proofs.Ytkbjhnlihnakkaa
