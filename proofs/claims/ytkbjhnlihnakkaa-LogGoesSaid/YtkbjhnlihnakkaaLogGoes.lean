/-
  The statement LogGoes: what is found behind a crash goes on: more records are put behind it, and found with it, whatever crashes come between that keep no part of what was not done. Condition: the row's own.
-/
import Derived.Test.YtkbjhnlihnakkaaLgW
namespace Go.Proofs.Ytkbjhnlihnakkaa
open Go.RowKit

/-- where the loop stands -/
structure GoesAt (w : World) (g b n : Nat) (wr : World) (k : Nat) (F : Nat → Prop) (s : Dsk) (ds : List (List UInt8)) (ps : List Piece) (v : Value) : Prop where
  disk : DiskAt wr g F s
  blk : Blk wr b (lgCells g (Lg.found 0 n 1 ds)) 74
  not : ¬ F b
  has : LogHas s n 1 ds
  quiet : s.Quiet
  few : s.Few (900 + 20 * k)
  recs : RecsAt wr 22 (fun q => F q ∨ q = b) ps v
  by_ : bytesOf ps = ds
  own : ∀ q, v.ownBlock = some q → w.heap.size ≤ q
  new : ∀ q, F q → w.heap.size ≤ q
  newb : w.heap.size ≤ b
  below : Below w.heap.size w wr
def GoesRel (w : World) (g b n m : Nat) (v i : Value) (wr : World) : Prop :=
  ∃ k F s ds ps, i = .int .i64 (k : Nat) ∧ k ≤ m ∧ GoesAt w g b n wr k F s ds ps v
theorem goes_few {s : Dsk} {n : Nat} {ds : List (List UInt8)} (h : LogHas s n 1 ds) (hn : 1 ≤ n) (h60 : n ≤ 60) : ds.length ≤ 3840 := by
  have h1 := (found_fits h hn).seq
  have h2 := (found_fits h hn).fin
  change ds.length ≤ (Lg.found 0 n 1 ds).fin at h1
  change (Lg.found 0 n 1 ds).fin ≤ n * 64 at h2
  omega

set_option maxRecDepth 100000 in
set_option maxHeartbeats 8000000 in
theorem logGoes_walk (y : Int) (A : Option Addr) (ps : List Piece) (c : Nat) (B : Option Addr) (lb : List UInt8) (cb : Nat) (z : Int) (C : Option Addr) (p : List Int) (cp : Nat) (D : Option Addr) (rs : List Piece) (cd : Nat) (w : World) (y0 : -9223372036854775808 ≤ y) (y1 : y ≤ 9223372036854775807) (hl : ps.length ≤ 9223372036854775807) (hs : SeenAll w A ps) (hc : ps.length ≤ c)
    (hlb : lb.length ≤ 140737488351232) (hsb : Seen w B lb) (_ : -9223372036854775808 ≤ z) (z1 : z ≤ 9223372036854775807) (hpl : p.length ≤ 9223372036854775807) (hps : Ints w C p) (hpb : ∀ x ∈ p, -9223372036854775808 ≤ x ∧ x ≤ 9223372036854775807) (hrl : rs.length ≤ 9223372036854775807) (hrs : SeenAll w D rs) :
    Calls Try.prog 5 #[.int .i64 y, .slice A ps.length c, .slice B lb.length cb, .int .i64 z, .slice C p.length cp, .slice D rs.length cd] w fun e w' => e = .returned (.bool true) ∧ Below w.heap.size w w' := by
  have HS := Lib.hid hs
  have HSB := Lib.hid hsb
  have HP := Lib.hid hps
  have HPB := Lib.hid hpb
  have HPL := Lib.hid hpl
  have HSH := Lib.hid (fun w' (hb : Below w.heap.size w w') => short_any A ps c w' (hs.below hb) hl)
  obtain ⟨m, hm⟩ : ∃ m, m = ps.length := ⟨_, rfl⟩
  obtain ⟨nb, hnb⟩ : ∃ nb, nb = lb.length := ⟨_, rfl⟩
  obtain ⟨np, hnp⟩ : ∃ np, np = p.length := ⟨_, rfl⟩
  have HM : Hid (ps.length = m) := hm.symm
  have HNB : Hid (lb.length = nb) := hnb.symm
  have HNP : Hid (np = p.length) := hnp
  obtain ⟨ok, hok⟩ : ∃ ok, ok = shortB ps := ⟨_, rfl⟩
  rw [← hok] at HSH
  rw [← hm] at HSH hc ⊢
  rw [← hnb] at hlb ⊢
  rw [← hnp]
  have HOK := Lib.hid hok
  clear hs hm hl hok hsb hps hpb hpl hnb hnp
  have HRS := Lib.hid hrs
  have HSR := Lib.hid (fun w' (hb : Below w.heap.size w w') => short_any D rs cd w' (hrs.below hb) hrl)
  obtain ⟨mr, hmr⟩ : ∃ mr, mr = rs.length := ⟨_, rfl⟩
  have HMR : Hid (rs.length = mr) := hmr.symm
  obtain ⟨too, htoo⟩ : ∃ too, too = shortB rs := ⟨_, rfl⟩
  rw [← htoo] at HSR
  rw [← hmr] at HSR ⊢
  have HTOO := Lib.hid htoo
  clear hrs hmr hrl htoo
  by_cases hbad : ok = false ∨ too = false ∨ 1000 < (nb : Int) ∨ y < 1 ∨ 60 < y
  · have hdone : (ok = false) ∨ (ok = true ∧ too = false) ∨ (ok = true ∧ too = true ∧ 1000 < (nb : Int)) ∨ (ok = true ∧ too = true ∧ ¬ 1000 < (nb : Int) ∧ y < 1) ∨ (ok = true ∧ too = true ∧ ¬ 1000 < (nb : Int) ∧ ¬ y < 1 ∧ 60 < y) := by
      by_cases t0 : ok = true
      rotate_left
      · exact .inl ((by simpa using t0))
      by_cases t1 : too = true
      rotate_left
      · exact .inr (.inl (⟨t0, (by simpa using t1)⟩))
      by_cases t2 : 1000 < (nb : Int)
      · exact .inr (.inr (.inl (⟨t0, t1, t2⟩)))
      by_cases t3 : y < 1
      · exact .inr (.inr (.inr (.inl (⟨t0, t1, t2, t3⟩))))
      by_cases t4 : 60 < y
      · exact .inr (.inr (.inr (.inr (⟨t0, t1, t2, t3, t4⟩))))
      exact absurd hbad (by simp only [t0, t1, Bool.true_eq_false, false_or]; omega)
    clear hbad
    rcases hdone with rfl | ⟨rfl, rfl⟩ | ⟨rfl, rfl, g2⟩ | ⟨rfl, rfl, g2, g3⟩ | ⟨rfl, rfl, g2, g3, g4⟩
    all_goals
      go_enter Try.func5, Try.ntmps5
      go_wp2_with fail
      refine (awake_any _).mono ?_
      rintro e w1 ⟨rfl, hb1⟩
      have B1 := Lib.hid hb1
      clear hb1
      go_wp2_with fail
      refine (HSH.out _ B1.out).mono ?_
      rintro e w2 ⟨rfl, rfl⟩
      go_wp2_with fail
      refine (HSR.out _ B1.out).mono ?_
      rintro e w2 ⟨rfl, rfl⟩
      go_wp2_with fail
      all_goals go_ret
      all_goals exact ⟨rfl, B1.out⟩
  obtain ⟨n, rfl⟩ : ∃ n : Nat, y = (n : Int) := ⟨y.toNat, by omega⟩
  have hok1 : ok = true := by cases ok <;> simp_all
  subst hok1
  have htoo1 : too = true := by cases too <;> simp_all
  subst htoo1
  have n1 : 1 ≤ n := by omega
  have n2 : n ≤ 60 := by omega
  have hy1 : ¬ (n : Int) < 1 := by omega
  have hy2 : ¬ (60 : Int) < (n : Int) := by omega
  have hy3 : ¬ (1000 : Int) < (nb : Int) := by omega
  have hnb1 : nb ≤ 1000 := by omega
  clear hbad y0 y1 hlb
  go_enter Try.func5, Try.ntmps5
  go_wp2_with fail
  refine (awake_any _).mono ?_
  rintro e w1 ⟨rfl, hb1⟩
  have B1 := Lib.hid hb1
  clear hb1
  go_wp2_with fail
  refine (HSH.out _ B1.out).mono ?_
  rintro e w2 ⟨rfl, rfl⟩
  go_wp2_with fail
  refine (HSR.out _ B1.out).mono ?_
  rintro e w2 ⟨rfl, rfl⟩
  go_wp2_with fail
  refine (begun_any w1 n A ps m c HM.out (HS.out.below B1.out) HOK.out.symm n1 n2 hc).mono ?_
  rintro e w2 (⟨rfl, hb2⟩ | ⟨g, b, F, s, hs, AH, cH, rfl, hcH, hat⟩)
  · have B2 := Lib.hid (hop B1.out hb2)
    clear hb2
    go_wp2
    go_ret
    exact ⟨rfl, B2.out⟩
  have H := Lib.hid hat
  have HCH := Lib.hid hcH
  have B2 : Hid (Below w.heap.size w w2) := hop B1.out hat.below
  have HF : Hid (∀ q, F q → w.heap.size ≤ q) := fun q hq => Nat.le_trans B1.out.size (hat.new q hq)
  have HBB : Hid (w.heap.size ≤ b) := Nat.le_trans B1.out.size hat.newb
  have HFW : Hid ((s.arm z).Few 800) := hat.few.arm z z1
  have HLA : Hid (LogHas (s.arm z) n 1 (bytesOf hs)) := hat.has.arm z
  have HARM := Lib.hid (arm_any w2 g F s z hat.disk)
  clear hat hcH hc
  go_wp2_with fail
  refine HARM.out.mono ?_
  rintro e w3 ⟨rfl, F3, h31, h32, h33⟩
  have D3 := Lib.hid h31
  have HF3 : Hid (∀ q, F3 q → w.heap.size ≤ q) := fun q hq => (h33 q hq).elim (HF.out q) (Nat.le_trans B2.out.size)
  have B3 : Hid (Below w.heap.size w w3) := h32.below B2.out HF.out
  have L3 : Hid (Blk w3 b (lgCells g (Lg.found 0 n 1 (bytesOf hs))) 74) := h32.blk H.out.blk H.out.not
  have N3 : Hid (¬ F3 b) := fun hf => (h33 b hf).elim H.out.not (fun h => by have := H.out.blk.lt; omega)
  have R3 : Hid (RowAway w3 (fun q => F3 q ∨ q = b) AH hs) := H.out.row.moved (h32.mono (fun _ h => .inl h)) (fun q hq => hq.elim (fun h => (h33 q h).elim (fun h => .inl (.inl h)) .inr) (fun h => .inl (.inr h)))
  have HEH : Hid (EachSeen w hs) := fun q hq => HS.out.each q (H.out.mem q hq)
  have HHL : Hid (hs.length ≤ 40) := H.out.le
  generalize s.arm z = s1 at *
  clear h31 h32 h33 HARM H B1 B2 HF HSH
  have HGL := Lib.hid (goes_lists HLA.out n1 lb (pickOf p))
  have HFT := Lib.hid (found_fits HLA.out n1)
  have hcl := code_len (Lg.found 0 n 1 (bytesOf hs)) (d := lb) (by rw [HNB.out]; exact hnb1)
  have HFW2 : Hid (((Lg.found 0 n 1 (bytesOf hs)).dsk s1 lb).Few 900) := (Lg.few (d := lb) HFT.out HLA.out.ok HFW.out).mono (by omega)
  have HAP := Lib.hid (append_any w3 g b F3 s1 _ B lb nb cb 800 ⟨D3.out, L3.out, N3.out, HFT.out⟩ (HSB.out.below B3.out) HNB.out (by omega) HFW.out (by decide))
  obtain ⟨s2, hs2⟩ : ∃ s2, s2 = (Lg.found 0 n 1 (bytesOf hs)).dsk s1 lb := ⟨_, rfl⟩
  rw [← hs2] at HGL HFW2 HAP
  clear hcl hs2
  go_wp2_with fail
  refine HAP.out.mono ?_
  rintro e w4 ⟨rfl, F4, h41, h42, h43, h44, h45⟩
  have D4 := Lib.hid h41
  have HF4 : Hid (∀ q, F4 q → w.heap.size ≤ q) := fun q hq => (h45 q hq).elim (HF3.out q) (Nat.le_trans B3.out.size)
  have B4 : Hid (Below w.heap.size w w4) := h44.below B3.out (fun q hq => hq.elim (HF3.out q) (fun e => by rw [e]; exact HBB.out))
  have HCR := Lib.hid (crash_own (d := cp) D4.out B4.out HF4.out HP.out HNP.out HPL.out HPB.out)
  clear h41 h42 h43 h44 h45 HAP D3 L3 N3 R3 HF3 B3 HFT HEH HHL HCH
  go_wp2_with fail
  refine HCR.out.mono ?_
  rintro e w5 ⟨rfl, F5, h51, h52, h53⟩
  have D5 := Lib.hid h51
  have HF5 : Hid (∀ q, F5 q → w.heap.size ≤ q) := fun q hq => (h53 q hq).elim (HF4.out q) (Nat.le_trans B4.out.size)
  have B5 : Hid (Below w.heap.size w w5) := h52.below B4.out HF4.out
  obtain ⟨es, hes, _⟩ := HGL.out
  have HES := Lib.hid hes
  have HFW3 : Hid ((s2.crash (pickOf p)).Few (900 + 20 * 0)) := HFW2.out.crash _
  have HQ3 : Hid ((s2.crash (pickOf p)).Quiet) := ⟨rfl, rfl⟩
  generalize s2.crash (pickOf p) = s3 at *
  clear h51 h52 h53 HCR HF4 B4 D4 hes HGL HFW2
  go_wp2_with fail
  refine (open_any w5 g F5 _ 0 (n : Int) D5.out (by decide) (by decide)).mono ?_
  rintro e w6 (⟨h, _⟩ | ⟨_, h, _⟩ | ⟨_, _, ho, _⟩ | ⟨_, _, gen, dd, ho, b6, qs, v6, rfl, hqs, hb6, hlg, hrec, hbl⟩)
  · exact absurd (HES.out.on n1) h
  · rw [HQ3.out.1] at h; cases h
  · have h := HES.out.found
    change openL (s3.bytes 0 n) = none at ho
    rw [ho] at h; cases h
  have hgd := HES.out.found
  change openL (s3.bytes 0 n) = some (gen, dd) at ho
  rw [ho] at hgd
  injection hgd with hgd
  injection hgd with hg1 hd1
  subst hg1 hd1
  have HB6 : Hid (w.heap.size ≤ b6) := Nat.le_trans B5.out.size hb6
  have H6 : Hid (GoesAt w g b6 n w6 0 F5 s3 dd qs v6) :=
    ⟨D5.out.still hbl, hlg, fun hf => by have := D5.out.lt b6 hf; omega, HES.out, HQ3.out, HFW3.out, hrec.mono (fun q hq => hq.elim (fun h => .inl (.inl h)) .inr), hqs, fun q hq => by
      have h1 := hrec.far q hq
      rcases Nat.lt_or_ge q w5.heap.size with h2 | h2
      · exact absurd (.inl (.inr h2)) h1
      · exact Nat.le_trans B5.out.size h2, HF5.out, HB6.out, hop B5.out hbl⟩
  have HALL : Hid (∀ q ∈ rs, q.2.1.length ≤ 1000) := (of_decide_eq_true HTOO.out.symm).2
  have hm40 : mr ≤ 40 := by have := (of_decide_eq_true HTOO.out.symm).1; rw [HMR.out] at this; exact this
  obtain ⟨iB, hiB, hzB, hsB, hbB⟩ := info_parts infoBL
  clear hqs hb6 hlg hrec hbl ho HES HFW3 HQ3 D5 HF5 B5 HSR
  go_wp2
  go_loopw [20, 22] (fun v i wr => GoesRel w g b6 n mr v i wr) (fun _ i _ => mr - (intOf i).toNat)
  case atStart => exact ⟨0, F5, s3, dd, qs, rfl, Nat.zero_le _, H6.out⟩
  case round =>
    clear H6
    obtain ⟨k, F, s, ds, ps, rfl, hkp, hat⟩ := hrel
    have H := Lib.hid hat
    obtain ⟨AX, cX, hv⟩ := hat.recs.form
    subst hv
    obtain ⟨nx, hnx⟩ : ∃ nx, nx = ps.length := ⟨_, rfl⟩
    have hnx4 : nx ≤ 3840 := by rw [hnx, ← length_bytesOf, hat.by_]; exact goes_few hat.has n1 n2
    rw [← hnx] at H ⊢
    have HNX : Hid (ps.length = nx) := hnx.symm
    clear hat hnx
    by_cases hlt : k < mr
    · have hkl : (k : Int) < (mr : Int) := by omega
      have hkp' : k < rs.length := by rw [HMR.out]; exact hlt
      obtain ⟨bd, od, hA, hbd, hck, hsk, hcapk, hmk⟩ := HRS.out.at_ k hkp'
      subst hA
      have HLK : Hid (rs[k].2.1.length ≤ 1000) := HALL.out _ (List.getElem_mem hkp')
      generalize rs[k] = qk at *
      obtain ⟨Aq, lq, cq⟩ := qk
      obtain ⟨nq, hnq⟩ : ∃ nq, nq = lq.length := ⟨_, rfl⟩
      have HNQL : Hid (nq = lq.length) := hnq
      have HCK : Hid (∀ W, Below w.heap.size w W → W.cell? ⟨bd, od + k, none⟩ = some (.slice Aq nq cq)) := fun W hW => by rw [hnq]; exact (hW.cell (p := ⟨bd, od + k, none⟩) hbd).trans hck
      have HSQ : Hid (Seen w Aq lq) := hsk
      have HCPK : Hid (lq.length ≤ cq) := hcapk
      have hnq1 : nq ≤ 1000 := by rw [hnq]; exact HLK.out
      have hcell := HCK.out wr H.out.below
      have HFIT := Lib.hid (found_fits H.out.has n1)
      have HAP := Lib.hid (append_any wr g b6 F s _ Aq lq nq cq (900 + 20 * k) ⟨H.out.disk, H.out.blk, H.out.not, HFIT.out⟩ (HSQ.out.below H.out.below) HNQL.out.symm (by omega) H.out.few (by omega))
      have HCS := Lib.hid (H.out.has.append n1 lq)
      have HFWX0 : Hid (((Lg.found 0 n 1 ds).dsk s lq).Few (900 + 20 * (k + 1))) := (Lg.few (d := lq) HFIT.out H.out.has.ok H.out.few).mono (by have := code_len (Lg.found 0 n 1 ds) (d := lq) HLK.out; omega)
      clear hck hsk hcapk hmk hnq hkp'
      go_wp2_with fail
      refine HAP.out.mono ?_
      rintro e w7 ⟨rfl, F7, h71, h72, h73, h74, h75⟩
      have HF7 : Hid (∀ q, F7 q → w.heap.size ≤ q) := fun q hq => (h75 q hq).elim (H.out.new q) (Nat.le_trans H.out.below.size)
      have B7 : Hid (Below w.heap.size w w7) := h74.below H.out.below (fun q hq => hq.elim (H.out.new q) (fun e => by rw [e]; exact HB6.out))
      have R70 : Hid (RecsAt w7 22 (fun q => F7 q ∨ q = b6) ps (.slice AX nx cX)) := H.out.recs.moved h74 (fun q hq => hq.elim (fun h => (h75 q h).elim (fun h => .inl (.inl h)) .inr) (fun h => .inl (.inr h)))
      have D70 := Lib.hid h71
      have L70 := Lib.hid h72
      have N7 := Lib.hid h73
      have hcell7 := HCK.out w7 B7.out
      have HLT7 : Hid (∀ q, (F7 q ∨ q = b6) → q < w7.heap.size) := fun q hq => hq.elim (h71.lt q) (fun e => by rw [e]; exact h72.lt)
      clear h71 h72 h73 h74 h75 HAP hcell
      rcases HCS.out with ⟨e4, d4, n4, _⟩ | ⟨e4, l4, n4, q4, _⟩ | ⟨_, _, h4, _⟩
      · rw [e4]
        have D7 : Hid (DiskAt w7 g F7 s) := by have := D70.out; rw [d4] at this; exact this
        have L7 : Hid (Blk w7 b6 (lgCells g (Lg.found 0 n 1 ds)) 74) := by have := L70.out; rw [n4] at this; exact this
        have R7 := R70
        have LH : Hid (LogHas s n 1 ds) := H.out.has
        have HLX : Hid (ps.length = nx) := HNX.out
        have HBX : Hid (bytesOf ps = ds) := H.out.by_
        have OWX : Hid (∀ q, (Value.slice AX nx cX).ownBlock = some q → w.heap.size ≤ q) := H.out.own
        have HFWX : Hid (s.Few (900 + 20 * (k + 1))) := by have := HFWX0.out; rw [d4] at this; exact this
        clear e4 d4 n4 HCS hcell7 D70 L70 R70 H HFWX0
        have HCR := Lib.hid (crash_own (d := cp) D7.out B7.out HF7.out HP.out HNP.out HPL.out HPB.out)
        go_wp2_with fail
        refine HCR.out.mono ?_
        rintro e w8 ⟨rfl, F8, h81, h82, h83⟩
        have D8 := Lib.hid h81
        have HF8 : Hid (∀ q, F8 q → w.heap.size ≤ q) := fun q hq => (h83 q hq).elim (HF7.out q) (Nat.le_trans B7.out.size)
        have B8 : Hid (Below w.heap.size w w8) := h82.below B7.out HF7.out
        have L8 : Hid (Blk w8 b6 _ 74) := h82.blk L7.out N7.out
        have N8 : Hid (¬ F8 b6) := fun hf => (h83 b6 hf).elim N7.out (fun h => by have := L7.out.lt; omega)
        have R8 : Hid (RecsAt w8 22 (fun q => F8 q ∨ q = b6) _ _) := R7.out.moved (h82.mono (fun _ h => .inl h)) (fun q hq => hq.elim (fun h => (h83 q h).elim (fun h => .inl (.inl h)) .inr) (fun h => .inl (.inr h)))
        clear h81 h82 h83 HCR D7 L7 N7 R7 HF7 B7
        go_wp2_with fail
        refine (open_any w8 g F8 _ 0 (n : Int) D8.out (by decide) (by decide)).mono ?_
        have HQ8 := Lib.hid (LH.out.crash (pickOf p))
        rintro e w9 (⟨h, _⟩ | ⟨_, h, _⟩ | ⟨_, _, ho, _⟩ | ⟨_, _, gen, dd, ho, b9, qs, v9, rfl, hqs, _, _, hrec, hb9⟩)
        · exact absurd (HQ8.out.1.on n1) h
        · cases h
        · have h := HQ8.out.1.found
          change openL ((_ : Dsk).bytes 0 n) = none at ho
          rw [ho] at h; cases h
        have hgd := HQ8.out.1.found
        change openL ((_ : Dsk).bytes 0 n) = some (gen, dd) at ho
        rw [ho] at hgd
        injection hgd with hgd
        injection hgd with hg1 hd1
        subst hg1 hd1
        obtain ⟨A9, c9, hv⟩ := hrec.form
        subst hv
        obtain ⟨nq, hnq⟩ : ∃ nq, nq = qs.length := ⟨_, rfl⟩
        have hn9 : nq ≤ 3840 := by rw [hnq, ← length_bytesOf, hqs]; exact goes_few HQ8.out.1 n1 n2
        rw [← hnq]
        have HNQ : Hid (qs.length = nq) := hnq.symm
        have HQS := Lib.hid hqs
        have SB := Lib.hid hrec.shown
        have B9 := Lib.hid (hop B8.out hb9)
        have HB9 := Lib.hid hb9
        have SA9 := Lib.hid ((R8.out.still hb9).shown)
        clear hqs hrec hb9 ho hnq
        go_wp2_with fail
        refine (texts_same _ _ _ _ A9 qs nq c9 _ HLX.out HNQ.out SA9.out SB.out (by omega) (by omega)).mono ?_
        rintro e w10 ⟨rfl, hb10⟩
        have hq : decide (bytesOf ps = bytesOf qs) = true := decide_eq_true (by rw [HQS.out]; exact HBX.out)
        rw [hq]
        have HB10 := Lib.hid (hop HB9.out hb10)
        clear hq hb10
        go_wp2
        go_roundw
        case rel =>
          refine ⟨k + 1, F8, _, _, ps, by go_num, by omega, ⟨D8.out.still HB10.out, L8.out.below HB10.out L8.out.lt, N8.out, HQ8.out.1, HQ8.out.2, ?_, R8.out.still HB10.out, HBX.out, OWX.out, HF8.out, HB6.out, hop B8.out HB10.out⟩⟩
          exact (HFWX.out.crash _)
        case measure => simp [intOf]; omega
      · rw [e4]
        have D7 : Hid (DiskAt w7 g F7 ((Lg.found 0 n 1 ds).dsk s lq)) := D70.out
        have L7 : Hid (Blk w7 b6 (lgCells g (Lg.found 0 n 1 (ds ++ [lq]))) 74) := by have := L70.out; rw [n4] at this; exact this
        have LH := Lib.hid l4
        have HBX : Hid (bytesOf (ps ++ [(Aq, lq, cq)]) = ds ++ [lq]) := by show _ = _; rw [← H.out.by_]; simp [bytesOf]
        have HFWX := HFWX0
        have OWN0 : Hid (∀ q, (Value.slice AX nx cX).ownBlock = some q → w.heap.size ≤ q) := H.out.own
        generalize (Lg.found 0 n 1 ds).dsk s lq = s4 at *
        have HOWN : Hid ((w7.alloc (.cells #[.slice Aq nq cq] 22)).ownsRow 0 22 1 (.slice AX nx cX) nx (ps.map pv)) := by
          have h1 := R70.out.list
          rw [HNX.out] at h1
          exact h1.alloc _
        have HPC : Hid (PieceAt w7 (fun q => (F7 q ∨ q = b6) ∨ (Value.slice AX nx cX).ownBlock = some q) (Aq, lq, cq)) := by
          refine ⟨?_, HCPK.out, by show lq.length ≤ _; have := HLK.out; omega⟩
          have h0 : Away w (fun q => w.heap.size ≤ q) Aq lq := Away.of_seen HSQ.out (fun _ _ _ h1 h2 => by omega)
          have h1 : Away w7 (fun q => w.heap.size ≤ q) Aq lq := h0.moved (.of_below B7.out _) (fun _ h => .inl h)
          exact h1.mono (fun q hq => hq.elim (fun h => h.elim (HF7.out q) (fun e => by rw [e]; exact HB6.out)) (OWN0.out q))
        clear e4 l4 n4 q4 HCS D70 L70 H HFWX0
        go_wp2_with (at_builtin; refine wpList_append_lies _ rfl (.tmp 106) (.tmp 111) 42 rfl 0 22 iB (.slice none 0 0) 1 24 Try.underlying42 hiB hzB hsB hbB rfl (by decide) (.slice AX nx cX) nx (ps.map pv) rfl HOWN.out ⟨w7.heap.size, 0, none⟩ 1 1 [.slice Aq nq cq] rfl rfl (World.news_of_block (heap_alloc_new w7 (.cells #[.slice Aq nq cq] 22))) (by intro u hu; rw [List.mem_singleton.1 hu]; rfl) (by decide) (by unfold maxLen; omega) (by omega) (Nat.zero_le _) (w7.heap.size + 1) (by simp) ?_)
        intro gk cap5 w71 hown5 hgr5 hat5 hlt5
        have e1 : pv (Aq, lq, cq) = .slice Aq nq cq := by show Value.slice Aq lq.length cq = _; rw [← HNQL.out]
        obtain ⟨hrec7, hs7⟩ := R70.out.more (w5 := w71) (g := gk) (c := cap5) HPC.out HLT7.out (by rw [HNX.out, e1]; exact hown5) (by rw [e1]; exact hgr5) hat5
        rw [HNX.out] at hrec7
        have R71 := Lib.hid hrec7
        have OWX : Hid (∀ q, (Value.slice (some ⟨gk, 0, none⟩) (nx + 1) cap5).ownBlock = some q → w.heap.size ≤ q) := fun q hq => by
          injection hq with hq
          change gk = q at hq
          subst hq
          rcases hat5 with e2 | e2
          · exact OWN0.out gk e2
          · have := B7.out.size; omega
        have hGO : ∀ q, (Value.slice AX nx cX).ownBlock = some q → w.heap.size ≤ q := OWN0.out
        have D71 : Hid (DiskAt w71 g F7 s4) := D7.out.apart hs7 (fun q hq hown => R70.out.far q hown (.inl hq))
        have L71 : Hid (Blk w71 b6 (lgCells g (Lg.found 0 n 1 (ds ++ [lq]))) 74) := hs7.blk L7.out (fun hown => R70.out.far b6 hown (.inr rfl))
        have B71 : Hid (Below w.heap.size w w71) := hs7.below B7.out hGO
        have HLX : Hid ((ps ++ [(Aq, lq, cq)]).length = nx + 1) := by show _ = _; rw [List.length_append, HNX.out]; rfl
        clear hown5 hgr5 hat5 hlt5 e1 hrec7 hs7 hGO R70 D7 L7 B7 OWN0 HOWN HPC HLT7 hcell7
        have HCR := Lib.hid (crash_own (d := cp) D71.out B71.out HF7.out HP.out HNP.out HPL.out HPB.out)
        go_wp2_with fail
        refine HCR.out.mono ?_
        rintro e w8 ⟨rfl, F8, h81, h82, h83⟩
        have D8 := Lib.hid h81
        have HF8 : Hid (∀ q, F8 q → w.heap.size ≤ q) := fun q hq => (h83 q hq).elim (HF7.out q) (Nat.le_trans B71.out.size)
        have B8 : Hid (Below w.heap.size w w8) := h82.below B71.out HF7.out
        have L8 : Hid (Blk w8 b6 _ 74) := h82.blk L71.out N7.out
        have N8 : Hid (¬ F8 b6) := fun hf => (h83 b6 hf).elim N7.out (fun h => by have := L71.out.lt; omega)
        have R8 : Hid (RecsAt w8 22 (fun q => F8 q ∨ q = b6) _ _) := R71.out.moved (h82.mono (fun _ h => .inl h)) (fun q hq => hq.elim (fun h => (h83 q h).elim (fun h => .inl (.inl h)) .inr) (fun h => .inl (.inr h)))
        clear h81 h82 h83 HCR D71 L71 N7 R71 HF7 B71
        go_wp2_with fail
        refine (open_any w8 g F8 _ 0 (n : Int) D8.out (by decide) (by decide)).mono ?_
        have HQ8 := Lib.hid (LH.out.crash (pickOf p))
        rintro e w9 (⟨h, _⟩ | ⟨_, h, _⟩ | ⟨_, _, ho, _⟩ | ⟨_, _, gen, dd, ho, b9, qs, v9, rfl, hqs, _, _, hrec, hb9⟩)
        · exact absurd (HQ8.out.1.on n1) h
        · cases h
        · have h := HQ8.out.1.found
          change openL ((_ : Dsk).bytes 0 n) = none at ho
          rw [ho] at h; cases h
        have hgd := HQ8.out.1.found
        change openL ((_ : Dsk).bytes 0 n) = some (gen, dd) at ho
        rw [ho] at hgd
        injection hgd with hgd
        injection hgd with hg1 hd1
        subst hg1 hd1
        obtain ⟨A9, c9, hv⟩ := hrec.form
        subst hv
        obtain ⟨nq, hnq⟩ : ∃ nq, nq = qs.length := ⟨_, rfl⟩
        have hn9 : nq ≤ 3840 := by rw [hnq, ← length_bytesOf, hqs]; exact goes_few HQ8.out.1 n1 n2
        rw [← hnq]
        have HNQ : Hid (qs.length = nq) := hnq.symm
        have HQS := Lib.hid hqs
        have SB := Lib.hid hrec.shown
        have B9 := Lib.hid (hop B8.out hb9)
        have HB9 := Lib.hid hb9
        have SA9 := Lib.hid ((R8.out.still hb9).shown)
        clear hqs hrec hb9 ho hnq
        go_wp2_with fail
        refine (texts_same _ _ _ _ A9 qs nq c9 _ HLX.out HNQ.out SA9.out SB.out (by omega) (by omega)).mono ?_
        rintro e w10 ⟨rfl, hb10⟩
        have hq : decide (bytesOf (ps ++ [(Aq, lq, cq)]) = bytesOf qs) = true := decide_eq_true (by rw [HQS.out]; exact HBX.out)
        rw [hq]
        have HB10 := Lib.hid (hop HB9.out hb10)
        clear hq hb10
        go_wp2
        go_roundw
        case rel =>
          refine ⟨k + 1, F8, _, _, (ps ++ [(Aq, lq, cq)]), by go_num, by omega, ⟨D8.out.still HB10.out, L8.out.below HB10.out L8.out.lt, N8.out, HQ8.out.1, HQ8.out.2, ?_, R8.out.still HB10.out, HBX.out, OWX.out, HF8.out, HB6.out, hop B8.out HB10.out⟩⟩
          exact (HFWX.out.crash _)
        case measure => simp [intOf]; omega
      · exact absurd H.out.quiet h4
    · obtain rfl : k = mr := by omega
      go_wp2_with fail
      refine (seq_any H.out.blk).mono ?_
      rintro e w7 ⟨rfl, hw⟩
      obtain rfl := hw.symm
      have hseq : (((Lg.found 0 n 1 ds).seq : Nat) : Int) = (nx : Int) := by
        show ((ds.length : Nat) : Int) = _
        rw [← H.out.by_, length_bytesOf, HNX.out]
      rw [hseq]
      clear hseq
      go_wp2
      go_ret
      exact ⟨rfl, H.out.below⟩
end Go.Proofs.Ytkbjhnlihnakkaa
