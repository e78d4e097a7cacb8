/-
  The statements' own helper 'begun': a disk with a log of some records. Conditions: the records are few and short.
-/
import Derived.Test.YtkbjhnlihnakkaaLgAwake
import Derived.Test.YtkbjhnlihnakkaaAllRow
import Derived.Deep.RegionHeldLaw
namespace Go.Proofs.Ytkbjhnlihnakkaa
open Go.RowKit

/-- a slice of pieces whose row lies in a block that is none of G -/
def RowAway (w : World) (G : Nat → Prop) (A : Option Addr) (hs : List Piece) : Prop :=
  hs = [] ∨ ∃ b off, A = some ⟨b, off, none⟩ ∧ b < w.heap.size ∧ ¬ G b ∧ ∀ j (h : j < hs.length), w.cell? ⟨b, off + j, none⟩ = some (pv hs[j])
section
variable {w w' w5 : World} {G G' : Nat → Prop} {A : Option Addr} {hs ps : List Piece} {f : TypeId}
theorem RowAway.moved (h : RowAway w G A hs) (hs' : Spared w w' G) (hG : ∀ k, G' k → G k ∨ w.heap.size ≤ k) : RowAway w' G' A hs := by
  rcases h with rfl | ⟨b, off, rfl, hb, hn, hc⟩
  · exact .inl rfl
  · refine .inr ⟨b, off, rfl, Nat.lt_of_lt_of_le hb hs'.size, fun hg => (hG b hg).elim hn (fun h => by omega), fun j hj => ?_⟩
    exact (World.cell?_of_block (a := ⟨b, off + j, none⟩) (hs'.block b hb hn)).trans (hc j hj)
theorem RowAway.still (h : RowAway w G A hs) (hb : Below w.heap.size w w') : RowAway w' G A hs := h.moved (.of_below hb G) (fun _ h => .inl h)
theorem RowAway.shown (h : RowAway w G A hs) (he : EachSeen w hs) : SeenAll w A hs := by
  rcases h with rfl | ⟨b, off, rfl, hb, _, hc⟩
  · exact .inl rfl
  · refine .inr ⟨b, off, rfl, hb, fun j hj => ⟨hc j hj, he _ (List.getElem_mem hj)⟩⟩
theorem RowAway.of_own {g c n : Nat} (h : w.ownsRow 0 f 1 (.slice (some ⟨g, 0, none⟩) n c) n (hs.map pv)) (hG : ¬ G g) : RowAway w G (some ⟨g, 0, none⟩) hs := by
  refine .inr ⟨g, 0, rfl, (h.lt g rfl).2, hG, fun j hj => ?_⟩
  have hcell := h.cells (g := g) rfl j (pv hs[j]) (by rw [List.getElem?_map, List.getElem?_eq_getElem hj]; rfl)
  rwa [add_plain] at hcell
theorem SeenAll.row (h : SeenAll w A ps) (hG : ∀ k, G k → w.heap.size ≤ k) : RowAway w G A ps := by
  rcases h with rfl | ⟨b, off, rfl, hb, hc⟩
  · exact .inl rfl
  · exact .inr ⟨b, off, rfl, hb, fun hg => by have := hG b hg; omega, fun j hj => (hc j hj).1⟩
theorem RowAway.mono (h : RowAway w G A hs) (hG : ∀ k, G' k → G k) : RowAway w G' A hs := h.moved (.refl w G) (fun k hk => .inl (hG k hk))
theorem RowAway.take (h : RowAway w G A hs) (n : Nat) : RowAway w G A (hs.take n) := by
  rcases h with rfl | ⟨b, off, rfl, hb, hn, hc⟩
  · exact .inl (by simp)
  · refine .inr ⟨b, off, rfl, hb, hn, fun j hj => ?_⟩
    rw [List.length_take] at hj
    rw [List.getElem_take]
    exact hc j (by omega)
/-- the cells to be appended -/
theorem RowAway.news (h : RowAway w G A hs) (h0 : 0 < hs.length) : ∃ b off, A = some ⟨b, off, none⟩ ∧ ∀ (W : World), Below w.heap.size w W → ∀ j u, (hs.map pv)[j]? = some u → W.cell? ((⟨b, off, none⟩ : Addr).add j) = some u := by
  rcases h with rfl | ⟨b, off, rfl, hb, _, hc⟩
  · simp at h0
  · refine ⟨b, off, rfl, fun W hW j u hu => ?_⟩
    obtain ⟨hj, hju⟩ := List.getElem?_eq_some_iff.1 hu
    rw [List.length_map] at hj
    rw [add_plain, ← hju, List.getElem_map]
    exact (hW.cell (p := ⟨b, off + j, none⟩) hb).trans (hc j hj)
theorem pieces_one (hs : List Piece) : ∀ u ∈ hs.map pv, u.oneCell' = true := fun u hu => by obtain ⟨q, _, rfl⟩ := List.mem_map.1 hu; rfl
end
theorem cut_one (A : Option Addr) (n c : Nat) (hc : 1 ≤ c) (W : World) : (Instr.slice 42 (.slice A n c) none (some (.int .i64 1)) none).run Try.prog W = .ok (.slice A 1 c) W := by
  have e2 : Try.prog.elem 42 = 22 := by kernel_rfl
  obtain ⟨i, hi, hz⟩ := Option.map_eq_some_iff.1 infoBL
  simp only [Prod.mk.injEq] at hz
  rw [run_slice_h W 42 A n c (by kernel_rfl) .i64 1 (by omega) (by omega), e2]
  simp [sizeOf, typeInfo, hi, hz.2.1, sliced]
  intro _
  cases A with
  | none => rfl
  | some a =>
    show some (a.add 0) = some a
    rw [Addr.add_zero']
theorem code_len (l : Lg) {d : List UInt8} (h : d.length ≤ 1000) : (l.code d).length ≤ 1024 := by
  unfold Lg.code
  by_cases hm : mayB l.gen (l.seq : Int) d.length = true
  · have := putL3 (n := d.length) (by omega)
    rw [encF_may hm, frameL_length]; omega
  · rw [encF_not (by simpa using hm)]; simp
theorem below_bare {wr W w4 : World} (h : Below wr.heap.size wr W) (hg : W.grownBy w4 (Value.ownBlock (.slice none 0 0))) : Below wr.heap.size wr w4 :=
  h.trans ((show Below W.heap.size W w4 from ⟨hg.os, hg.tape, hg.output, hg.size, fun k hk => hg.block k hk (by simp [Value.ownBlock])⟩).mono h.size)
theorem below_own {wr W w5 : World} {g n c : Nat} (h : Below wr.heap.size wr W) (hg : W.grownBy w5 (Value.ownBlock (.slice (some ⟨g, 0, none⟩) n c))) (hle : wr.heap.size ≤ g) : Below wr.heap.size wr w5 :=
  h.grown hg h.size (fun k hk => by injection hk with hk; change g = k at hk; omega)

theorem news_kept {w w4 : World} {v : Value} {f : TypeId} (hg : ((w.alloc (.cells #[v] f))).grownBy w4 (Value.ownBlock (.slice none 0 0))) : ∀ j u, [v][j]? = some u → w4.cell? ((⟨w.heap.size, 0, none⟩ : Addr).add j) = some u := fun j u hu => by
  obtain ⟨hj, hju⟩ := List.getElem?_eq_some_iff.1 hu
  have hj0 : j = 0 := by simp at hj; omega
  subst hj0
  rw [add_plain, Nat.zero_add, ← hju]
  have h1 : Blk (w.alloc (.cells #[v] f)) w.heap.size [v] f := Blk.new w [v] f
  have h2 : Blk w4 w.heap.size [v] f := (hg.block w.heap.size h1.lt (by simp [Value.ownBlock])).trans h1
  exact h2.cell (i := 0) (by simp)

/-- where the loop stands -/
structure BegunAt (w : World) (g b n : Nat) (ps : List Piece) (wr : World) (k : Nat) (F : Nat → Prop) (s : Dsk) (hs : List Piece) (A : Option Addr) : Prop where
  disk : DiskAt wr g F s
  blk : Blk wr b (lgCells g (Lg.found 0 n 1 (bytesOf hs))) 74
  not : ¬ F b
  has : LogHas s n 1 (bytesOf hs)
  quiet : s.Quiet
  few : s.Few (20 * k)
  row : RowAway wr (fun q => F q ∨ q = b) A hs
  mem : ∀ q ∈ hs, q ∈ ps
  le : hs.length ≤ k
  new : ∀ q, F q → w.heap.size ≤ q
  newb : w.heap.size ≤ b
  below : Below w.heap.size w wr
def BegunRel (w : World) (g b n : Nat) (ps : List Piece) (v i : Value) (wr : World) : Prop :=
  ∃ k F s hs A c, i = .int .i64 (k : Nat) ∧ 1 ≤ k ∧ k ≤ ps.length ∧ v = .slice A hs.length c ∧ hs.length ≤ c ∧ BegunAt w g b n ps wr k F s hs A
/-- what begun answers -/
def BegunOut (w : World) (n : Nat) (ps : List Piece) (e : Ending) (w' : World) : Prop :=
  (e = .returned (.tuple #[.pointer none, .pointer none, .slice none 0 0]) ∧ Below w.heap.size w w') ∨
  (∃ g b F s hs A c, e = .returned (.tuple #[.pointer (some ⟨g, 0, none⟩), .pointer (some ⟨b, 0, none⟩), .slice A hs.length c]) ∧ hs.length ≤ c ∧ BegunAt w g b n ps w' 40 F s hs A)

set_option maxRecDepth 100000 in
set_option maxHeartbeats 4000000 in
theorem begun_any (w : World) (n : Nat) (A : Option Addr) (ps : List Piece) (m c : Nat) (hm : ps.length = m) (hs : SeenAll w A ps) (hsh : shortB ps = true) (h1 : 1 ≤ n) (h2 : n ≤ 60) (hmc : m ≤ c) :
    Calls Try.prog 28 #[.int .i64 (n : Int), .slice A m c] w (BegunOut w n ps) := by
  have hsh' := of_decide_eq_true hsh
  have HS := Lib.hid hs
  have HM := Lib.hid hm
  have HSH := Lib.hid hsh'.2
  have hm40 : m ≤ 40 := by rw [← hm]; exact hsh'.1
  clear hs hm hsh hsh'
  by_cases h0 : m = 0
  · have hz : ((m : Int) == 0) = true := by rw [h0]; rfl
    have hz' : (m : Int) = 0 := by omega
    clear h0
    go_enter Try.func28, Try.ntmps28
    go_wp2_with fail
    refine (new_any _ n h1 (by omega)).mono ?_
    rintro e w1 ⟨g, F, rfl, hd, hF, hb⟩
    have B1 := Lib.hid hb
    clear hd hF hb
    go_wp2
    go_ret3
    exact .inl ⟨rfl, B1.out⟩
  have hz : ((m : Int) == 0) = false := by rw [beq_eq_false_iff_ne]; omega
  have hz' : ¬ (m : Int) = 0 := by omega
  have hm0 : 0 < ps.length := by rw [HM.out]; omega
  obtain ⟨ba, oa, rfl, hba, hc0, hs0, hcap0, hm0'⟩ := HS.out.at_ 0 hm0
  have HLEN0 : Hid (ps[0].2.1.length ≤ 1000) := HSH.out _ (List.getElem_mem hm0)
  obtain ⟨q0, hq0⟩ : ∃ q0, q0 = ps[0] := ⟨_, rfl⟩
  rw [← hq0] at hc0 hs0 hcap0 hm0' HLEN0
  have HQ0 : Hid (q0 ∈ ps) := by show _ ∈ _; rw [hq0]; exact List.getElem_mem hm0
  have HP1 : Hid (ps.take 1 = [q0]) := by
    show _ = _
    rw [hq0, List.take_succ_eq_append_getElem hm0]
    rfl
  obtain ⟨Aq, lq, cq⟩ := q0
  obtain ⟨nq, hnq⟩ : ∃ nq, nq = lq.length := ⟨_, rfl⟩
  have HNQ := Lib.hid hnq
  have HC0 : Hid (w.cell? ⟨ba, oa, none⟩ = some (.slice Aq nq cq)) := by show _ = _; rw [hnq]; exact hc0
  have HSQ : Hid (Seen w Aq lq) := hs0
  have HLQ : Hid (lq.length ≤ 1000) := HLEN0.out
  clear hq0 hc0 hs0 hcap0 hm0' hnq HLEN0
  go_enter Try.func28, Try.ntmps28
  go_wp2_with fail
  refine (new_any _ n h1 (by omega)).mono ?_
  rintro e w1 ⟨g, F, rfl, hd, hF, hb⟩
  have D := Lib.hid hd
  have HF := Lib.hid hF
  have B1 := Lib.hid hb
  have hc1 : w1.cell? ⟨ba, oa, none⟩ = some (.slice Aq nq cq) := (hb.cell (p := ⟨ba, oa, none⟩) hba).trans HC0.out
  have hc1' : w1.cell? ⟨ba, oa + 0, none⟩ = some (.slice Aq nq cq) := hc1
  clear hd hF hb
  go_wp2_with fail
  refine (begin_any w1 g F (Dsk.new n) 0 (n : Int) 1 Aq lq nq cq 0 D.out (HSQ.out.below B1.out) HNQ.out.symm (by rw [HNQ.out]; have := HLQ.out; omega) (Dsk.Few.new n) (by decide) (by decide) (by decide)).mono ?_
  have hk0 : (Dsk.new n).K.length = n := by simp [Dsk.new]
  have hod : OnDisk (Dsk.new n) 0 (n : Int) ∧ (1 : Int) ≤ 1 ∧ (1 : Int) ≤ 1152921504606846976 := ⟨⟨by decide, by omega, by rw [hk0]; omega⟩, by decide, by decide⟩
  have HBN := Lib.hid (begin_new (Dsk.new_ok (n := n) (by omega)) rfl (n := n) (by omega) h1 (g := 1) (by decide) (by decide) lq)
  have HFIT : Hid ((Lg.new 0 n 1).Fits (Dsk.new n)) := ⟨h1, by show 0 + n ≤ _; omega, Nat.zero_le _, Nat.le_refl _, by show (1 : Int) ≤ 1; decide, by show (1 : Int) ≤ 1152921504606846976; decide⟩
  have HFW := Lib.hid (Lg.few (d := lq) HFIT.out (Dsk.new_ok (n := n) (by omega)) (Dsk.Few.new n))
  have HCL := Lib.hid (code_len (Lg.new 0 n 1) HLQ.out)
  have HQ : Hid ((Dsk.new n).Quiet) := ⟨rfl, rfl⟩
  have HOD := Lib.hid hod
  clear hk0 hod hc1 hc1'
  rintro e w2 (⟨h, _⟩ | ⟨_, h, rfl, hmv⟩ | ⟨_, h, b, rfl, hbb, F2, h21, h22, h23, h24, h25⟩)
  · exact absurd HOD.out h
  · have B2 : Hid (Below w.heap.size w w2) := by
      obtain ⟨_, _, h2, _⟩ := hmv
      exact h2.below B1.out HF.out
    change ¬ (Lg.new 0 n 1).err (Dsk.new n) lq = 0 at h
    have he : (Lg.new 0 n 1).err (Dsk.new n) lq = 4 := by
      rcases HBN.out with h4 | ⟨h4, _⟩ | ⟨_, h4, _⟩
      · exact h4.1
      · exact absurd h4 h
      · exact absurd HQ.out h4
    clear hmv h
    go_wp2
    go_ret3
    exact .inl ⟨rfl, B2.out⟩
  change (Lg.new 0 n 1).err (Dsk.new n) lq = 0 at h
  change DiskAt w2 g F2 ((Lg.new 0 n 1).dsk (Dsk.new n) lq) at h21
  change Blk w2 b (lgCells g ((Lg.new 0 n 1).next (Dsk.new n) lq)) 74 at h22
  have hcase : LogHas ((Lg.new 0 n 1).dsk (Dsk.new n) lq) n 1 [lq] ∧ (Lg.new 0 n 1).next (Dsk.new n) lq = Lg.found 0 n 1 [lq] ∧ ((Lg.new 0 n 1).dsk (Dsk.new n) lq).Quiet := by
    rcases HBN.out with h4 | ⟨_, h5, h6, h7, _⟩ | ⟨_, h4, _⟩
    · rw [h] at h4; exact absurd h4.1 (by decide)
    · exact ⟨h5, h6, h7 HQ.out⟩
    · exact absurd HQ.out h4
  have hfew : ((Lg.new 0 n 1).dsk (Dsk.new n) lq).Few (20 * 1) := HFW.out.mono (by have := HCL.out; omega)
  generalize (Lg.new 0 n 1).dsk (Dsk.new n) lq = s1 at *
  rw [hcase.2.1] at h22
  have B2 : Hid (Below w.heap.size w w2) := h24.below B1.out HF.out
  have H2 : Hid (BegunAt w g b n ps w2 1 F2 s1 [(Aq, lq, cq)] (some ⟨ba, oa, none⟩)) := by
    have hF2 : ∀ q, F2 q → w.heap.size ≤ q := fun q hq => (h25 q hq).elim (HF.out q) (Nat.le_trans B1.out.size)
    have hb2 : w.heap.size ≤ b := Nat.le_trans B1.out.size hbb
    refine ⟨h21, h22, h23, hcase.1, hcase.2.2, hfew, ?_, fun q hq => by rw [List.mem_singleton.1 hq]; exact HQ0.out, Nat.le_refl _, hF2, hb2, B2.out⟩
    have hr := ((HS.out.row (G := fun k => w.heap.size ≤ k) (fun _ h => h)).take 1).still B2.out
    rw [HP1.out] at hr
    exact hr.mono (fun k hk => hk.elim (hF2 k) (fun e => by rw [e]; exact hb2))
  clear h h21 h22 h23 h24 h25 hbb hcase hfew D HF HBN HFIT HFW HCL HQ HOD HC0 HSQ HNQ HLQ HQ0 B1
  have hcut := cut_one (some ⟨ba, oa, none⟩) m c (by omega)
  obtain ⟨iB, hiB, hzB, hsB, hbB⟩ := info_parts infoBL
  go_wp2
  go_loopw [11, 12] (fun v i wr => BegunRel w g b n ps v i wr) (fun _ i _ => m - (intOf i).toNat)
  case atStart => exact ⟨1, F2, s1, [(Aq, lq, cq)], some ⟨ba, oa, none⟩, c, rfl, Nat.le_refl _, by rw [HM.out]; omega, rfl, by show 1 ≤ c; omega, H2.out⟩
  case round =>
    clear H2 B2 HP1 hcut
    obtain ⟨k, F, s, hs, AH, cH, rfl, hk1, hkp, rfl, hcH, hat⟩ := hrel
    have H := Lib.hid hat
    have HCH := Lib.hid hcH
    have hle := hat.le
    rw [HM.out] at hkp
    clear hat hcH
    by_cases hlt : k < m
    · have hkl : (k : Int) < (m : Int) := by omega
      have hkp' : k < ps.length := by rw [HM.out]; exact hlt
      obtain ⟨bb, oo, hA, _, hck, hsk, hcapk, hmk⟩ := HS.out.at_ k hkp'
      injection hA with hA
      injection hA with e1 e2 _
      subst e1 e2
      have HLK : Hid (ps[k].2.1.length ≤ 1000) := HSH.out _ (List.getElem_mem hkp')
      have HQK : Hid (ps[k] ∈ ps) := List.getElem_mem hkp'
      generalize ps[k] = qk at *
      obtain ⟨Aq, lq, cq⟩ := qk
      obtain ⟨nq, hnq⟩ : ∃ nq, nq = lq.length := ⟨_, rfl⟩
      have HNQ := Lib.hid hnq
      have HCK : Hid (∀ W, Below w.heap.size w W → W.cell? ⟨ba, oa + k, none⟩ = some (.slice Aq nq cq)) := fun W hW => by rw [hnq]; exact (hW.cell (p := ⟨ba, oa + k, none⟩) hba).trans hck
      have HSQ : Hid (Seen w Aq lq) := hsk
      have hcell := HCK.out wr H.out.below
      have HAP := Lib.hid (append_any wr g b F s _ Aq lq nq cq (20 * k) ⟨H.out.disk, H.out.blk, H.out.not, found_fits H.out.has h1⟩ (HSQ.out.below H.out.below) HNQ.out.symm (by rw [HNQ.out]; have := HLK.out; omega) H.out.few (by omega))
      have HCS := Lib.hid (H.out.has.append h1 lq)
      have HFW := Lib.hid (Lg.few (d := lq) (found_fits H.out.has h1) H.out.has.ok H.out.few)
      have HCL := Lib.hid (code_len (Lg.found 0 n 1 (bytesOf hs)) HLK.out)
      clear hck hsk hcapk hmk hnq hkp'
      go_wp2_with fail
      refine HAP.out.mono ?_
      rintro e w3 ⟨rfl, F3, h31, h32, h33, h34, h35⟩
      have HF3 : Hid (∀ q, F3 q → w.heap.size ≤ q) := fun q hq => (h35 q hq).elim (H.out.new q) (Nat.le_trans H.out.below.size)
      have B3 : Hid (Below w.heap.size w w3) := h34.below H.out.below (fun q hq => hq.elim (H.out.new q) (fun e => by rw [e]; exact H.out.newb))
      have HROW : Hid (RowAway w3 (fun q => F3 q ∨ q = b) AH hs) := H.out.row.moved h34 (fun q hq => hq.elim (fun h => (h35 q h).elim (fun h => .inl (.inl h)) .inr) (fun h => .inl (.inr h)))
      have HFW3 : Hid (((Lg.found 0 n 1 (bytesOf hs)).dsk s lq).Few (20 * (k + 1))) := HFW.out.mono (by have := HCL.out; omega)
      rcases HCS.out with ⟨e4, d4, n4, _⟩ | ⟨e4, l4, n4, q4, _⟩ | ⟨_, _, h4, _⟩
      · rw [e4]
        have H3 : Hid (BegunAt w g b n ps w3 (k + 1) F3 s hs AH) := by
          rw [n4] at h32
          rw [d4] at h31
          exact ⟨h31, h32, h33, H.out.has, H.out.quiet, by have := HFW3.out; rw [d4] at this; exact this, HROW.out, H.out.mem, Nat.le_succ_of_le hle, HF3.out, H.out.newb, B3.out⟩
        clear h31 h32 h33 h34 h35 e4 d4 n4 HAP HCS HFW HCL hcell
        go_wp2
        go_roundw
        case rel => exact ⟨k + 1, F3, s, hs, AH, cH, by go_num, by omega, by rw [HM.out]; omega, rfl, HCH.out, H3.out⟩
        case measure => simp [intOf]; omega
      · rw [e4]
        have hpos : 0 < hs.length := by
          have := H.out.has.some
          rcases hs with _ | ⟨_, _⟩
          · exact absurd rfl this
          · simp
        have HBY : Hid (bytesOf (hs ++ [(Aq, lq, cq)]) = bytesOf hs ++ [lq]) := by show _ = _; simp [bytesOf]
        obtain ⟨bh, oh, rfl, hnews⟩ := HROW.out.news hpos
        have HNEWS := Lib.hid hnews
        have bd3 : Below w3.heap.size w3 w3.drew := (Below.refl _ _).drew
        have bdB : Below w3.heap.size w3 (w3.drew.alloc (.cells #[.slice Aq nq cq] 22)) := bd3.alloc bd3.size _
        have BD := Lib.hid bd3
        have BDB := Lib.hid bdB
        have HG3 : Hid (∀ q, (F3 q ∨ q = b) → q < w3.heap.size) := fun q hq => hq.elim (h31.lt q) (fun e => by rw [e]; exact h32.lt)
        have hml : Hid ((hs.map pv).length = hs.length * 1) := by show _ = _; rw [List.length_map, Nat.mul_one]
        have hll : hs.length ≤ 40 := by omega
        have HPV : Hid (pv (Aq, lq, cq) = .slice Aq nq cq) := by show Value.slice Aq lq.length cq = _; rw [HNQ.out]
        have hkb : Below w.heap.size w w3.drew := B3.out.drew
        have hkc : ∀ o, (w3.drew.alloc o).cell? ⟨ba, oa + k, none⟩ = some (.slice Aq nq cq) := fun o => HCK.out _ (hkb.alloc hkb.size o)
        have H3 : Hid (DiskAt w3 g F3 ((Lg.found 0 n 1 (bytesOf hs)).dsk s lq) ∧ Blk w3 b (lgCells g ((Lg.found 0 n 1 (bytesOf hs)).next s lq)) 74 ∧ ¬ F3 b) := ⟨h31, h32, h33⟩
        have L4 := Lib.hid l4
        have N4 := Lib.hid n4
        have Q4 := Lib.hid (q4 H.out.quiet).1
        clear h31 h32 h33 h34 h35 e4 l4 n4 q4 HAP HCS HFW HCL hcell hnews bd3 bdB
        go_wp2_with fail
        go_region_held_law (fun W => W.cell? ⟨ba, oa + k, none⟩ = some (.slice Aq nq cq))
          (first | exact HCK.out _ hkb | assumption | (apply hkc) | (apply hc4) | (apply HCK.out; assumption))
          (first
            | (refine step_append_lies _ rfl (.const (.slice none 0 0)) (.tmp 60) 42 rfl 0 22 iB (.slice none 0 0) 1 24 Try.underlying42 hiB hzB hsB hbB rfl (by decide) (.slice none 0 0) 0 [] (by simp [Act.eval]) (World.ownsRow_nil _ _ _ _) ⟨bh, oh, none⟩ hs.length cH (hs.map pv) (by simp [Act.eval]) hml.out (HNEWS.out _ (by first | exact BD.out | exact BDB.out)) (pieces_one hs) (by omega) (by unfold maxLen; omega) (by omega) (Nat.zero_le _) _ rfl ?_; intro g4 cap4 w4 hown4 hgr4 hat4 hlt4
               have hb4 : Below w3.heap.size w3 w4 := below_bare (by first | exact BD.out | exact BDB.out) hgr4
               have hbw4 : Below w.heap.size w w4 := hop B3.out hb4
               have hc4 : ∀ o, (w4.alloc o).cell? ⟨ba, oa + k, none⟩ = some (.slice Aq nq cq) := fun o => HCK.out _ (hbw4.alloc hbw4.size o)
               have HG4 : Hid (w3.heap.size ≤ g4) := (by rcases hat4 with e | e; (· cases e); (· rw [e]; first | exact BD.out.size | exact BDB.out.size))
               have HO4 : Hid (w4.ownsRow 0 22 1 (.slice (some ⟨g4, 0, none⟩) hs.length cap4) hs.length (hs.map pv)) := (by have := hown4; rw [Nat.zero_add] at this; exact this)
               have HB4 := Lib.hid hb4
               (try have HNB := Lib.hid (news_kept (w := w3) (v := .slice Aq nq cq) (f := 22) ⟨hgr4.os, hgr4.tape, hgr4.output, hgr4.size, hgr4.block⟩))
               clear hown4 hgr4 hat4 hlt4 hb4)
            | (have hnb := HNB.out
               refine step_append_lies w4 rfl (.tmp 61) (.tmp 66) 42 rfl 0 22 iB (.slice none 0 0) 1 24 Try.underlying42 hiB hzB hsB hbB rfl (by decide) (.slice (some ⟨g4, 0, none⟩) hs.length cap4) hs.length (hs.map pv) (by simp [Act.eval, Act.put]) HO4.out ⟨w3.heap.size, 0, none⟩ 1 1 [.slice Aq nq cq] (by simp [Act.eval, Act.put]) rfl hnb (by intro u hu; rw [List.mem_singleton.1 hu]; rfl) (by decide) (by unfold maxLen; omega) (by omega) (Nat.zero_le _) _ rfl ?_; intro g5 cap5 w5 hown5 hgr5 hat5 hlt5
               have hb5 : Below w3.heap.size w3 w5 := below_own HB4.out hgr5 HG4.out
               have HG5 : Hid (w3.heap.size ≤ g5) := (by rcases hat5 with e | e; (· injection e with e; rw [← e]; exact HG4.out); (· rw [e]; exact HB4.out.size))
               have HO5 := Lib.hid hown5
               have HB5 := Lib.hid hb5
               have hbw5 : Below w.heap.size w w5 := hop B3.out hb5
               clear hown5 hgr5 hat5 hlt5 hb5 hnb)
            | (refine step_append_lies (w4.alloc (.cells #[.slice Aq nq cq] 22)) rfl (.tmp 61) (.tmp 66) 42 rfl 0 22 iB (.slice none 0 0) 1 24 Try.underlying42 hiB hzB hsB hbB rfl (by decide) (.slice (some ⟨g4, 0, none⟩) hs.length cap4) hs.length (hs.map pv) (by simp [Act.eval]) (HO4.out.alloc _) ⟨w4.heap.size, 0, none⟩ 1 1 [.slice Aq nq cq] (by simp [Act.eval]) rfl (World.news_of_block (heap_alloc_new w4 _)) (by intro u hu; rw [List.mem_singleton.1 hu]; rfl) (by decide) (by unfold maxLen; omega) (by omega) (Nat.zero_le _) (w4.heap.size + 1) (by simp) ?_; intro g5 cap5 w5 hown5 hgr5 hat5 hlt5
               have hb5 : Below w3.heap.size w3 w5 := below_own (HB4.out.alloc HB4.out.size _) hgr5 HG4.out
               have HG5 : Hid (w3.heap.size ≤ g5) := (by rcases hat5 with e | e; (· injection e with e; rw [← e]; exact HG4.out); (· rw [e]; exact Nat.le_succ_of_le HB4.out.size))
               have HO5 := Lib.hid hown5
               have HB5 := Lib.hid hb5
               have hbw5 : Below w.heap.size w w5 := hop B3.out hb5
               clear hown5 hgr5 hat5 hlt5 hb5))
        all_goals
          go_wp2
          go_roundw
          case rel =>
            refine ⟨k + 1, F3, (Lg.found 0 n 1 (bytesOf hs)).dsk s lq, hs ++ [(Aq, lq, cq)], some ⟨g5, 0, none⟩, cap5, by go_num, by omega, by rw [HM.out]; omega, by rw [List.length_append]; rfl, ?_, ?_⟩
            · have := own_len HO5.out
              rw [List.length_append]; exact this.2
            · have hr : RowAway w5 (fun q => F3 q ∨ q = b) (some ⟨g5, 0, none⟩) (hs ++ [(Aq, lq, cq)]) := by
                refine RowAway.of_own (f := 22) (n := hs.length + 1) (c := cap5) ?_ (fun hg => by have := HG3.out g5 hg; have := HG5.out; omega)
                rw [List.map_append, List.map_cons, List.map_nil, HPV.out]
                exact HO5.out
              exact ⟨H3.out.1.still HB5.out, by have := H3.out.2.1; rw [N4.out, ← HBY.out] at this; exact this.below HB5.out this.lt, H3.out.2.2, by rw [HBY.out]; exact L4.out, Q4.out, HFW3.out, hr, fun q hq => (List.mem_append.1 hq).elim (H.out.mem q) (fun h => by rw [List.mem_singleton.1 h]; exact HQK.out), by rw [List.length_append]; show hs.length + 1 ≤ k + 1; omega, HF3.out, H.out.newb, hbw5⟩
          case measure => simp [intOf]; omega
      · exact absurd H.out.quiet h4
    · obtain rfl : k = m := by omega
      go_wp2
      go_ret3
      have H' := H.out
      exact .inr ⟨g, b, F, s, hs, AH, cH, rfl, HCH.out, ⟨H'.disk, H'.blk, H'.not, H'.has, H'.quiet, H'.few.mono (by omega), H'.row, H'.mem, by omega, H'.new, H'.newb, H'.below⟩⟩
end Go.Proofs.Ytkbjhnlihnakkaa
