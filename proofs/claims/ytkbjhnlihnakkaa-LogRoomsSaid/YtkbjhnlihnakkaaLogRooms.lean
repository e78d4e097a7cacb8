/-
  The statement LogRooms: a record is put just if its frame fits; the room is less by as much then, and one more is there; else nothing changes. Condition: the row's own.
-/
import Derived.Test.YtkbjhnlihnakkaaLgBegun
namespace Go.Proofs.Ytkbjhnlihnakkaa
open Go.RowKit

/-- the bytes of a record are as many as its size says -/
theorem code_size {l : Lg} {s : Dsk} {d : List UInt8} (hf : l.Fits s) (hK : s.K.length ≤ 4096) (hd : d.length ≤ 1000) : ((l.code d).length : Int) = sizeL (d.length : Int) ∧ 0 < (l.code d).length := by
  have h1 := hf.gen1
  have h2 := hf.gen2
  have h3 := hf.seq
  have h4 := hf.fin
  have h5 := hf.area
  have hm : mayB l.gen (l.seq : Int) d.length = true := decide_eq_true ⟨by omega, h2, by omega, by omega, by omega⟩
  have hp := frameL_pos l.gen (l.seq : Int) d
  unfold Lg.code
  rw [encF_may hm]
  exact ⟨(sizeL_frame hm).symm, by omega⟩
theorem full_size {l : Lg} {s : Dsk} {d : List UInt8} (hf : l.Fits s) (hK : s.K.length ≤ 4096) (hd : d.length ≤ 1000) : l.full d = decide ((l.room : Int) < sizeL (d.length : Int)) := by
  obtain ⟨h1, h2⟩ := code_size hf hK hd
  unfold Lg.full
  rw [← h1, decide_eq_false (by omega), Bool.false_or, Bool.eq_iff_iff, decide_eq_true_iff, decide_eq_true_iff]
  omega
/-- where the loop stands -/
structure RoomsAt (w : World) (g b n : Nat) (wr : World) (k : Nat) (F : Nat → Prop) (s : Dsk) (ds : List (List UInt8)) : Prop where
  disk : DiskAt wr g F s
  blk : Blk wr b (lgCells g (Lg.found 0 n 1 ds)) 74
  not : ¬ F b
  has : LogHas s n 1 ds
  quiet : s.Quiet
  few : s.Few (20 * k)
  new : ∀ q, F q → w.heap.size ≤ q
  newb : w.heap.size ≤ b
  below : Below w.heap.size w wr
def RoomsRel (w : World) (g b n m : Nat) (i : Value) (wr : World) : Prop :=
  ∃ k F s ds, i = .int .i64 (k : Nat) ∧ 1 ≤ k ∧ k ≤ m ∧ RoomsAt w g b n wr k F s ds

set_option maxRecDepth 100000 in
set_option maxHeartbeats 4000000 in
theorem logRooms_walk (y : Int) (A : Option Addr) (ps : List Piece) (c : Nat) (w : World) (y0 : -9223372036854775808 ≤ y) (y1 : y ≤ 9223372036854775807) (hl : ps.length ≤ 9223372036854775807) (hs : SeenAll w A ps) :
    Calls Try.prog 7 #[.int .i64 y, .slice A ps.length c] w fun e w' => e = .returned (.bool true) ∧ Below w.heap.size w w' := by
  have HS := Lib.hid hs
  obtain ⟨m, hm⟩ : ∃ m, m = ps.length := ⟨_, rfl⟩
  have HM : Hid (ps.length = m) := hm.symm
  have HSH := Lib.hid (fun w' (hb : Below w.heap.size w w') => short_any A ps c w' (hs.below hb) hl)
  obtain ⟨ok, hok⟩ : ∃ ok, ok = shortB ps := ⟨_, rfl⟩
  rw [← hok] at HSH
  rw [← hm] at HSH ⊢
  have HOK := Lib.hid hok
  clear hs hm hl hok
  by_cases hbad : ok = false ∨ y < 1 ∨ 60 < y ∨ m = 0
  · have hdone : ok = false ∨ (ok = true ∧ y < 1) ∨ (ok = true ∧ ¬ y < 1 ∧ 60 < y) ∨ (ok = true ∧ ¬ y < 1 ∧ ¬ 60 < y ∧ m = 0) := by
      rcases hbad with h | h | h | h
      · exact .inl h
      · cases ok
        · exact .inl rfl
        · exact .inr (.inl ⟨rfl, h⟩)
      · cases ok
        · exact .inl rfl
        · exact .inr (.inr (.inl ⟨rfl, by omega, h⟩))
      · cases ok
        · exact .inl rfl
        · by_cases h1 : y < 1
          · exact .inr (.inl ⟨rfl, h1⟩)
          · by_cases h2 : 60 < y
            · exact .inr (.inr (.inl ⟨rfl, h1, h2⟩))
            · exact .inr (.inr (.inr ⟨rfl, h1, h2, h⟩))
    clear hbad
    rcases hdone with rfl | ⟨rfl, h1⟩ | ⟨rfl, h1, h2⟩ | ⟨rfl, h1, h2, rfl⟩
    all_goals
      go_enter Try.func7, Try.ntmps7
      go_wp2_with fail
      refine (awake_any _).mono ?_
      rintro e w1 ⟨rfl, hb1⟩
      have B1 := Lib.hid hb1
      clear hb1
      go_wp2_with fail
      refine (HSH.out _ B1.out).mono ?_
      rintro e w2 ⟨rfl, rfl⟩
      go_wp2_with fail
      all_goals go_ret
      all_goals exact ⟨rfl, B1.out⟩
  obtain ⟨n, rfl⟩ : ∃ n : Nat, y = (n : Int) := ⟨y.toNat, by omega⟩
  have hok1 : ok = true := by cases ok <;> simp_all
  subst hok1
  have n1 : 1 ≤ n := by omega
  have n2 : n ≤ 60 := by omega
  have hy1 : ¬ (n : Int) < 1 := by omega
  have hy2 : ¬ (60 : Int) < (n : Int) := by omega
  have hz : ((m : Int) == 0) = false := by rw [beq_eq_false_iff_ne]; omega
  have hz' : ¬ (m : Int) = 0 := by omega
  have HALL : Hid (∀ q ∈ ps, q.2.1.length ≤ 1000) := (of_decide_eq_true HOK.out.symm).2
  have hm40 : m ≤ 40 := by have := (of_decide_eq_true HOK.out.symm).1; rw [HM.out] at this; exact this
  have hm0 : 0 < ps.length := by rw [HM.out]; omega
  obtain ⟨ba, oa, rfl, hba, hc0, hs0, hcap0, hm0'⟩ := HS.out.at_ 0 hm0
  have HLEN0 : Hid (ps[0].2.1.length ≤ 1000) := HALL.out _ (List.getElem_mem hm0)
  obtain ⟨q0, hq0⟩ : ∃ q0, q0 = ps[0] := ⟨_, rfl⟩
  rw [← hq0] at hc0 hs0 hcap0 hm0' HLEN0
  obtain ⟨Aq, lq, cq⟩ := q0
  obtain ⟨nq, hnq⟩ : ∃ nq, nq = lq.length := ⟨_, rfl⟩
  have HNQ := Lib.hid hnq
  have HC0 : Hid (∀ W, Below w.heap.size w W → W.cell? ⟨ba, oa, none⟩ = some (.slice Aq nq cq)) := fun W hW => by rw [hnq]; exact (hW.cell (p := ⟨ba, oa, none⟩) hba).trans hc0
  have HSQ : Hid (Seen w Aq lq) := hs0
  have HLQ : Hid (lq.length ≤ 1000) := HLEN0.out
  have HBA := Lib.hid hba
  clear hq0 hc0 hs0 hcap0 hm0' hnq HLEN0 hbad y0 y1 hba
  go_enter Try.func7, Try.ntmps7
  go_wp2_with fail
  refine (awake_any _).mono ?_
  rintro e w1 ⟨rfl, hb1⟩
  have B1 := Lib.hid hb1
  clear hb1
  go_wp2_with fail
  refine (HSH.out _ B1.out).mono ?_
  rintro e w2 ⟨rfl, rfl⟩
  go_wp2_with fail
  refine (new_any _ n n1 (by omega)).mono ?_
  rintro e w2 ⟨g, F, rfl, hd, hF, hb⟩
  have D := Lib.hid hd
  have HF : Hid (∀ k, F k → w.heap.size ≤ k) := fun k hk => Nat.le_trans B1.out.size (hF k hk)
  have B2 := Lib.hid (hop B1.out hb)
  have hc2 := HC0.out _ B2.out
  have hc2' : w2.cell? ⟨ba, oa + 0, none⟩ = some (.slice Aq nq cq) := hc2
  clear hd hF hb
  go_wp2_with fail
  refine (begin_any w2 g F (Dsk.new n) 0 (n : Int) 1 Aq lq nq cq 0 D.out (HSQ.out.below B2.out) HNQ.out.symm (by rw [HNQ.out]; have := HLQ.out; omega) (Dsk.Few.new n) (by decide) (by decide) (by decide)).mono ?_
  have hk0 : (Dsk.new n).K.length = n := by simp [Dsk.new]
  have hod : OnDisk (Dsk.new n) 0 (n : Int) ∧ (1 : Int) ≤ 1 ∧ (1 : Int) ≤ 1152921504606846976 := ⟨⟨by decide, by omega, by rw [hk0]; omega⟩, by decide, by decide⟩
  have HBN := Lib.hid (begin_new (Dsk.new_ok (n := n) (by omega)) rfl (n := n) (by omega) n1 (g := 1) (by decide) (by decide) lq)
  have HFIT : Hid ((Lg.new 0 n 1).Fits (Dsk.new n)) := ⟨n1, by show 0 + n ≤ _; omega, Nat.zero_le _, Nat.le_refl _, by show (1 : Int) ≤ 1; decide, by show (1 : Int) ≤ 1152921504606846976; decide⟩
  have HFW := Lib.hid (Lg.few (d := lq) HFIT.out (Dsk.new_ok (n := n) (by omega)) (Dsk.Few.new n))
  have HCL := Lib.hid (code_len (Lg.new 0 n 1) HLQ.out)
  have HFS := Lib.hid (full_size (d := lq) HFIT.out (by omega) HLQ.out)
  have HQ : Hid ((Dsk.new n).Quiet) := ⟨rfl, rfl⟩
  have HOD := Lib.hid hod
  have hroom : ((Lg.new 0 n 1).room : Int) = (n : Int) * 64 := by show ((n * 64 - 0 : Nat) : Int) = _; omega
  have HROOM := Lib.hid hroom
  clear hk0 hod hc2 hc2' hroom
  have hnq : nq = lq.length := HNQ.out
  obtain ⟨z, hzz⟩ : ∃ z, z = sizeL (nq : Int) := ⟨_, rfl⟩
  have HZ := Lib.hid hzz
  have HSZ : Hid (∀ w', Calls Try.prog 32 #[.int .i64 (nq : Int)] w' fun e w'' => e = .returned (.int .i64 z) ∧ Below w'.heap.size w' w'') := fun w' => by
    rw [HZ.out]
    exact size_any (nq : Int) w' (by omega) (by rw [hnq]; have := HLQ.out; omega)
  clear hnq hzz
  rintro e w3 (⟨h, _⟩ | ⟨_, h, rfl, hmv⟩ | ⟨_, h, b, rfl, hbb, F2, h21, h22, h23, h24, h25⟩)
  · exact absurd HOD.out h
  · have B3 : Hid (Below w.heap.size w w3) := by
      obtain ⟨_, _, h2, _⟩ := hmv
      exact h2.below B2.out HF.out
    change ¬ (Lg.new 0 n 1).err (Dsk.new n) lq = 0 at h
    change Moved w2 g F ((Lg.new 0 n 1).dsk (Dsk.new n) lq) w3 at hmv
    have he : (Lg.new 0 n 1).err (Dsk.new n) lq = 4 ∧ (Lg.new 0 n 1).dsk (Dsk.new n) lq = Dsk.new n ∧ (Lg.new 0 n 1).full lq = true := by
      rcases HBN.out with h4 | ⟨h4, _⟩ | ⟨_, h4, _⟩
      · exact h4
      · exact absurd h4 h
      · exact absurd HQ.out h4
    have hgt : (n : Int) * 64 < z := by
      have h4 := he.2.2
      rw [HFS.out, HROOM.out, ← HNQ.out, ← HZ.out] at h4
      exact of_decide_eq_true h4
    rw [he.2.1] at hmv
    have hc3' : w3.cell? ⟨ba, oa + 0, none⟩ = some (.slice Aq nq cq) := HC0.out _ B3.out
    have hc3 : w3.cell? ⟨ba, oa, none⟩ = some (.slice Aq nq cq) := HC0.out _ B3.out
    have P3 := Lib.hid hmv
    rw [show (Lg.new (0 : Int).toNat ((n : Int)).toNat 1).err (Dsk.new n) lq = 4 from he.1]
    clear hmv h he
    go_wp2_with fail
    refine (HSZ.out _).mono ?_
    rintro e w4 ⟨rfl, hb4⟩
    have B4 := Lib.hid (hop B3.out hb4)
    have HCA : Hid (Calls Try.prog 24 #[.pointer (some ⟨g, 0, none⟩)] w4 fun e w' => e = .returned (.int .i64 0) ∧ w' = w4) := by
      obtain ⟨F3, hd, _⟩ := P3.out
      exact calls_any (hd.still hb4)
    clear hb4 hc3 hc3'
    go_wp2_with fail
    refine HCA.out.mono ?_
    rintro e w5 ⟨rfl, hw⟩
    obtain rfl := hw.symm
    go_wp2
    go_ret
    exact ⟨rfl, B4.out⟩
  change (Lg.new 0 n 1).err (Dsk.new n) lq = 0 at h
  change DiskAt w3 g F2 ((Lg.new 0 n 1).dsk (Dsk.new n) lq) at h21
  change Blk w3 b (lgCells g ((Lg.new 0 n 1).next (Dsk.new n) lq)) 74 at h22
  have hcase : LogHas ((Lg.new 0 n 1).dsk (Dsk.new n) lq) n 1 [lq] ∧ (Lg.new 0 n 1).next (Dsk.new n) lq = Lg.found 0 n 1 [lq] ∧ ((Lg.new 0 n 1).dsk (Dsk.new n) lq).Quiet ∧ (Lg.new 0 n 1).full lq = false := by
    rcases HBN.out with h4 | ⟨_, h5, h6, h7, h8⟩ | ⟨_, h4, _⟩
    · rw [h] at h4; exact absurd h4.1 (by decide)
    · exact ⟨h5, h6, h7 HQ.out, h8⟩
    · exact absurd HQ.out h4
  have hle : ¬ (n : Int) * 64 < z := by
    have h4 := hcase.2.2.2
    rw [HFS.out, HROOM.out, ← HNQ.out, ← HZ.out] at h4
    exact of_decide_eq_false h4
  have hfew : ((Lg.new 0 n 1).dsk (Dsk.new n) lq).Few (20 * 1) := HFW.out.mono (by have := HCL.out; omega)
  generalize (Lg.new 0 n 1).dsk (Dsk.new n) lq = s1 at *
  rw [hcase.2.1] at h22
  have B3 : Hid (Below w.heap.size w w3) := h24.below B2.out HF.out
  have H3 : Hid (∀ w', Below w3.heap.size w3 w' → RoomsAt w g b n w' 1 F2 s1 [lq]) := fun w' hb' =>
    ⟨h21.still hb', h22.below hb' h22.lt, h23, hcase.1, hcase.2.2.1, hfew, fun q hq => (h25 q hq).elim (HF.out q) (Nat.le_trans B2.out.size), Nat.le_trans B2.out.size hbb, hop B3.out hb'⟩
  have hc3' : w3.cell? ⟨ba, oa + 0, none⟩ = some (.slice Aq nq cq) := HC0.out _ B3.out
  have hc3 : w3.cell? ⟨ba, oa, none⟩ = some (.slice Aq nq cq) := HC0.out _ B3.out
  clear h h21 h22 h23 h24 h25 hbb hcase hfew D HF HBN HFIT HFW HCL HQ HOD HSQ HNQ HLQ B1 B2 HC0 HFS HROOM
  go_wp2_with fail
  refine (HSZ.out _).mono ?_
  rintro e w4 ⟨rfl, hb4⟩
  have H4 := Lib.hid (H3.out _ hb4)
  clear hb4 H3 hc3 hc3' B3
  go_wp2
  go_loopw [11] (fun i wr => RoomsRel w g b n m i wr) (fun i _ => m - (intOf i).toNat)
  case atStart => exact ⟨1, F2, s1, [lq], rfl, Nat.le_refl _, by omega, H4.out⟩
  case round =>
    clear H4
    obtain ⟨k, F, s, ds, rfl, hk1, hkp, hat⟩ := hrel
    have H := Lib.hid hat
    clear hat
    by_cases hlt : k < m
    · have hkl : (k : Int) < (m : Int) := by omega
      have hkp' : k < ps.length := by rw [HM.out]; exact hlt
      obtain ⟨bb, oo, hA, _, hck, hsk, hcapk, hmk⟩ := HS.out.at_ k hkp'
      injection hA with hA
      injection hA with e1 e2 _
      subst e1 e2
      have HLK : Hid (ps[k].2.1.length ≤ 1000) := HALL.out _ (List.getElem_mem hkp')
      generalize ps[k] = qk at *
      obtain ⟨Aq, lq, cq⟩ := qk
      obtain ⟨nq, hnq⟩ : ∃ nq, nq = lq.length := ⟨_, rfl⟩
      have HNQ := Lib.hid hnq
      have HCK : Hid (∀ W, Below w.heap.size w W → W.cell? ⟨ba, oa + k, none⟩ = some (.slice Aq nq cq)) := fun W hW => by rw [hnq]; exact (hW.cell (p := ⟨ba, oa + k, none⟩) HBA.out).trans hck
      have HSQ : Hid (Seen w Aq lq) := hsk
      have hnq1 : nq ≤ 1000 := by rw [hnq]; exact HLK.out
      have HFIT := Lib.hid (found_fits H.out.has n1)
      have hK4 : s.K.length ≤ 4096 := H.out.has.ok.hi
      have HFS := Lib.hid (full_size (d := lq) HFIT.out hK4 HLK.out)
      have HCZ := Lib.hid (code_size (d := lq) HFIT.out hK4 HLK.out)
      obtain ⟨z, hzz⟩ : ∃ z, z = sizeL (nq : Int) := ⟨_, rfl⟩
      have HZ := Lib.hid hzz
      have HSZ : Hid (∀ w', Calls Try.prog 32 #[.int .i64 (nq : Int)] w' fun e w'' => e = .returned (.int .i64 z) ∧ Below w'.heap.size w' w'') := fun w' => by
        rw [HZ.out]
        exact size_any (nq : Int) w' (by omega) (by omega)
      rw [← HNQ.out, ← HZ.out] at HFS HCZ
      obtain ⟨r, hr⟩ : ∃ r : Int, r = ((Lg.found 0 n 1 ds).room : Int) := ⟨_, rfl⟩
      have HR := Lib.hid hr
      rw [← hr] at HFS
      have HRM : Hid (∀ w', Below wr.heap.size wr w' → Calls Try.prog 33 #[.pointer (some ⟨b, 0, none⟩)] w' fun e w'' => e = .returned (.int .i64 r) ∧ Below w'.heap.size w' w'') := fun w' hb' => by
        rw [HR.out]
        exact (room_any (H.out.blk.below hb' H.out.blk.lt) HFIT.out.fin (by show n ≤ 4096; omega)).mono fun e w'' ⟨he, mm, hm⟩ => ⟨he, by rw [hm]; exact below_drewN (Below.refl _ _) mm⟩
      have HSQE : Hid (∀ w', Below wr.heap.size wr w' → Calls Try.prog 29 #[.pointer (some ⟨b, 0, none⟩)] w' fun e w'' => e = .returned (.int .i64 (ds.length : Int)) ∧ w'' = w') := fun w' hb' => seq_any (H.out.blk.below hb' H.out.blk.lt)
      have HCAL : Hid (∀ w', Below wr.heap.size wr w' → Calls Try.prog 24 #[.pointer (some ⟨g, 0, none⟩)] w' fun e w'' => e = .returned (.int .i64 (s.calls : Int)) ∧ w'' = w') := fun w' hb' => calls_any (H.out.disk.still hb')
      have HAP := Lib.hid (fun w' (hb' : Below wr.heap.size wr w') => append_any w' g b F s _ Aq lq nq cq (20 * k) ⟨H.out.disk.still hb', H.out.blk.below hb' H.out.blk.lt, H.out.not, found_fits H.out.has n1⟩ (HSQ.out.below (hop H.out.below hb')) HNQ.out.symm (by omega) H.out.few (by omega))
      have HCS := Lib.hid (H.out.has.append n1 lq)
      have HFW := Lib.hid (Lg.few (d := lq) HFIT.out H.out.has.ok H.out.few)
      have HCL := Lib.hid (code_len (Lg.found 0 n 1 ds) HLK.out)
      have hcl : s.calls ≤ 800 := by have := H.out.few.1; omega
      have hsq : ds.length ≤ 262144 := by
        have h1 := HFIT.out.seq
        have h2 := HFIT.out.fin
        change ds.length ≤ (Lg.found 0 n 1 ds).fin at h1
        change (Lg.found 0 n 1 ds).fin ≤ n * 64 at h2
        omega
      have hr0 : 0 ≤ r := by omega
      clear hck hsk hcapk hmk hnq hkp' hzz hr
      go_wp2_with fail
      refine (HRM.out _ (Below.refl _ _)).mono ?_
      rintro e w5 ⟨rfl, hb5⟩
      have B5 := Lib.hid hb5
      clear hb5
      go_wp2_with fail
      refine (HSQE.out _ B5.out).mono ?_
      rintro e w6 ⟨rfl, hw⟩
      obtain rfl := hw.symm
      go_wp2_with fail
      refine (HCAL.out _ B5.out).mono ?_
      rintro e w6 ⟨rfl, hw⟩
      obtain rfl := hw.symm
      have hc5 : w5.cell? ⟨ba, oa + k, none⟩ = some (.slice Aq nq cq) := HCK.out _ (hop H.out.below B5.out)
      go_wp2_with fail
      refine (HSZ.out _).mono ?_
      rintro e w6 ⟨rfl, hb6⟩
      have B6 := Lib.hid (hop B5.out hb6)
      have hc6 : w6.cell? ⟨ba, oa + k, none⟩ = some (.slice Aq nq cq) := HCK.out _ (hop H.out.below B6.out)
      clear hb6 hc5
      go_wp2_with fail
      refine (HAP.out _ B6.out).mono ?_
      rintro e w7 ⟨rfl, F3, h31, h32, h33, h34, h35⟩
      have HF3 : Hid (∀ q, F3 q → w.heap.size ≤ q) := fun q hq => (h35 q hq).elim (H.out.new q) (Nat.le_trans (hop H.out.below B6.out).size)
      have B7 : Hid (Below w.heap.size w w7) := h34.below (hop H.out.below B6.out) (fun q hq => hq.elim (H.out.new q) (fun e => by rw [e]; exact H.out.newb))
      have HFW3 : Hid (((Lg.found 0 n 1 ds).dsk s lq).Few (20 * (k + 1))) := HFW.out.mono (by have := HCL.out; omega)
      rcases HCS.out with ⟨e4, d4, n4, f4⟩ | ⟨e4, l4, n4, q4, f4⟩ | ⟨_, _, h4, _⟩
      · rw [e4]
        have hgt : r < z := by rw [HFS.out] at f4; exact of_decide_eq_true f4
        rw [n4] at h32
        rw [d4] at h31
        have H7 : Hid (RoomsAt w g b n w7 (k + 1) F3 s ds) := ⟨h31, h32, h33, H.out.has, H.out.quiet, by have := HFW3.out; rw [d4] at this; exact this, HF3.out, H.out.newb, B7.out⟩
        have HRM7 : Hid (Calls Try.prog 33 #[.pointer (some ⟨b, 0, none⟩)] w7 fun e w'' => e = .returned (.int .i64 r) ∧ Below w7.heap.size w7 w'') := by
          rw [HR.out]
          exact (room_any H7.out.blk HFIT.out.fin (by show n ≤ 4096; omega)).mono fun e w'' ⟨he, mm, hm⟩ => ⟨he, by rw [hm]; exact below_drewN (Below.refl _ _) mm⟩
        have HSQ7 : Hid (∀ w', Below w7.heap.size w7 w' → Calls Try.prog 29 #[.pointer (some ⟨b, 0, none⟩)] w' fun e w'' => e = .returned (.int .i64 (ds.length : Int)) ∧ w'' = w') := fun w' hb' => seq_any (H7.out.blk.below hb' H7.out.blk.lt)
        have HCA7 : Hid (∀ w', Below w7.heap.size w7 w' → Calls Try.prog 24 #[.pointer (some ⟨g, 0, none⟩)] w' fun e w'' => e = .returned (.int .i64 (s.calls : Int)) ∧ w'' = w') := fun w' hb' => calls_any (H7.out.disk.still hb')
        clear h31 h32 h33 h34 h35 e4 d4 n4 f4 HAP HCS HFW HCL hc6 HRM HSQE HCAL
        go_wp2_with fail
        refine HRM7.out.mono ?_
        rintro e w8 ⟨rfl, hb8⟩
        have B8 := Lib.hid hb8
        clear hb8
        go_wp2_with fail
        refine (HSQ7.out _ B8.out).mono ?_
        rintro e w9 ⟨rfl, hw⟩
        obtain rfl := hw.symm
        go_wp2_with fail
        refine (HCA7.out _ B8.out).mono ?_
        rintro e w9 ⟨rfl, hw⟩
        obtain rfl := hw.symm
        go_wp2
        go_roundw
        case rel =>
          have h := H7.out
          exact ⟨k + 1, F3, s, ds, by go_num, by omega, by omega, ⟨h.disk.still B8.out, h.blk.below B8.out h.blk.lt, h.not, h.has, h.quiet, h.few, h.new, h.newb, hop h.below B8.out⟩⟩
        case measure => simp [intOf]; omega
      · rw [e4]
        have hgt : ¬ r < z := by rw [HFS.out] at f4; exact of_decide_eq_false f4
        have q4 := q4 H.out.quiet
        rw [n4] at h32
        obtain ⟨s2, hs2⟩ : ∃ s2, s2 = (Lg.found 0 n 1 ds).dsk s lq := ⟨_, rfl⟩
        rw [← hs2] at h31 l4 q4 HFW3
        have H7 : Hid (RoomsAt w g b n w7 (k + 1) F3 s2 (ds ++ [lq])) := ⟨h31, h32, h33, l4, q4.1, HFW3.out, HF3.out, H.out.newb, B7.out⟩
        have hr2 : ((Lg.found 0 n 1 (ds ++ [lq])).room : Int) = r - z := by
          have hp : (Lg.found 0 n 1 (ds ++ [lq])) = (Lg.found 0 n 1 ds).put lq := by
            obtain ⟨_, _, _, p4⟩ := Lg.full_false f4
            exact (found_put p4).symm
          rw [hp]
          have h1 := HCZ.out.1
          have h2 : (((Lg.found 0 n 1 ds).put lq).room : Nat) = n * 64 - ((Lg.found 0 n 1 ds).fin + ((Lg.found 0 n 1 ds).code lq).length) := rfl
          have h3 := HR.out
          have h4 : ((Lg.found 0 n 1 ds).room : Nat) = n * 64 - (Lg.found 0 n 1 ds).fin := rfl
          rw [h2]
          omega
        have hfit7 := found_fits l4 n1
        have HRM7 : Hid (Calls Try.prog 33 #[.pointer (some ⟨b, 0, none⟩)] w7 fun e w'' => e = .returned (.int .i64 (r - z)) ∧ Below w7.heap.size w7 w'') := by
          rw [← hr2]
          exact (room_any H7.out.blk hfit7.fin (by show n ≤ 4096; omega)).mono fun e w'' ⟨he, mm, hm⟩ => ⟨he, by rw [hm]; exact below_drewN (Below.refl _ _) mm⟩
        have HSQ7 : Hid (∀ w', Below w7.heap.size w7 w' → Calls Try.prog 29 #[.pointer (some ⟨b, 0, none⟩)] w' fun e w'' => e = .returned (.int .i64 ((ds.length : Int) + 1)) ∧ w'' = w') := fun w' hb' => by
          have := seq_any (H7.out.blk.below hb' H7.out.blk.lt)
          have e : (((Lg.found 0 n 1 (ds ++ [lq])).seq : Nat) : Int) = (ds.length : Int) + 1 := by show (((ds ++ [lq]).length : Nat) : Int) = _; rw [List.length_append]; simp
          rw [e] at this
          exact this
        have HCA7 : Hid (∀ w', Below w7.heap.size w7 w' → Calls Try.prog 24 #[.pointer (some ⟨g, 0, none⟩)] w' fun e w'' => e = .returned (.int .i64 (s2.calls : Int)) ∧ w'' = w') := fun w' hb' => calls_any (H7.out.disk.still hb')
        have hne : ((s2.calls : Int) == (s.calls : Int)) = false := by rw [beq_eq_false_iff_ne]; have := q4.2; omega
        have hz0 : 0 ≤ z := by have := HCZ.out.1; omega
        have hzb : z ≤ 2000 := by have := HCZ.out.1; have := HCL.out; omega
        have hrb : r ≤ 10000000 := by have := HR.out; have h4 : ((Lg.found 0 n 1 ds).room : Nat) = n * 64 - (Lg.found 0 n 1 ds).fin := rfl; omega
        clear h31 h32 h33 h34 h35 e4 l4 n4 f4 HAP HCS HFW HCL hc6 HRM HSQE HCAL hs2 hr2 hfit7
        go_wp2_with fail
        refine HRM7.out.mono ?_
        rintro e w8 ⟨rfl, hb8⟩
        have B8 := Lib.hid hb8
        clear hb8
        go_wp2_with fail
        refine (HSQ7.out _ B8.out).mono ?_
        rintro e w9 ⟨rfl, hw⟩
        obtain rfl := hw.symm
        go_wp2_with fail
        refine (HCA7.out _ B8.out).mono ?_
        rintro e w9 ⟨rfl, hw⟩
        obtain rfl := hw.symm
        go_wp2
        go_roundw
        case rel =>
          have h := H7.out
          exact ⟨k + 1, F3, s2, ds ++ [lq], by go_num, by omega, by omega, ⟨h.disk.still B8.out, h.blk.below B8.out h.blk.lt, h.not, h.has, h.quiet, h.few, h.new, h.newb, hop h.below B8.out⟩⟩
        case measure => simp [intOf]; omega
      · exact absurd H.out.quiet h4
    · obtain rfl : k = m := by omega
      go_wp2
      go_ret
      exact ⟨rfl, H.out.below⟩
end Go.Proofs.Ytkbjhnlihnakkaa
