/-
  find: the pair of a key, from a page down. Conditions: the keys rise, the pages below are as they must be.
-/
import Derived.Test.YtaeocbgmoijedaaTrFind
import Derived.Deep.RegionHeld3
import Derived.Deep.RegionHeldLaw
import Derived.Deep.RegionWith
namespace Go.Proofs.Ytaeocbgmoijedaa
open Go.RowKit

/-- what find answers -/
def FindOut (w : World) (F : Nat → Prop) (k : Key) (l : List Kv) (e : Ending) (w' : World) : Prop := Below w.heap.size w w' ∧
  ((hasL k l = true ∧ ∃ q : El 0, e = .returned (.tuple #[.agg #[pv (epiece 0 q), pv (eval0 q)], .bool true]) ∧ EOk w F 0 q ∧ kv0 q = (k, getL k l)) ∨
   (hasL k l = false ∧ e = .returned (.tuple #[.agg #[.slice none 0 0, .slice none 0 0], .bool false])))

theorem page_form (h : Nat) (p : Pg h) : ∃ A0 n0 c0 A1 n1 c1 A2 n2 c2, ecells (h + 1) p = [.slice A0 n0 c0, .slice A1 n1 c1, .slice A2 n2 c2] := by
  cases h with
  | zero => exact ⟨_, _, _, _, _, _, _, _, _, rfl⟩
  | succ h => exact ⟨_, _, _, _, _, _, _, _, _, rfl⟩
theorem flats_split (h : Nat) (l : List (El h)) (i : Nat) (hi : i < l.length) : flats h l = flats h (l.take i) ++ eflat h l[i] ++ flats h (l.drop (i + 1)) := by
  conv => lhs; rw [← List.take_append_drop i l, List.drop_eq_getElem_cons hi]
  rw [flats_append, flats_cons, List.append_assoc]
/-- a page that may be searched -/
structure Good (w : World) (F : Nat → Prop) (h : Nat) (p : Pg h) : Prop where
  ok : EOk w F (h + 1) p
  inner : Inner (h + 1) p
  srt : Srt (flats h p.els)
  few : p.els.length ≤ 1000
  some_ : h ≠ 0 → 0 < p.els.length
theorem Good.below {w w' : World} {F : Nat → Prop} {h : Nat} {p : Pg h} (hp : Good w F h p) (hb : Below w.heap.size w w') : Good w' F h p := ⟨hp.ok.below hb, hp.inner, hp.srt, hp.few, hp.some_⟩
theorem Good.kid {w : World} {F : Nat → Prop} {h : Nat} {p : Pg (h + 1)} (hp : Good w F (h + 1) p) (i : Nat) (hi : i < p.els.length) : Good w F h p.els[i] := by
  have hm := List.getElem_mem hi
  have hf := hp.inner.full hm
  have hs := hp.srt
  rw [flats_split (h + 1) p.els i hi, Srt.append, Srt.append] at hs
  have h1 : 4 ≤ ecount (h + 1) p.els[i] := hf.1.1
  have h2 : ecount (h + 1) p.els[i] ≤ 8 := hf.1.2
  refine ⟨hp.ok.2.2.2 _ hm, hf.2, hs.1.2.1, ?_, fun _ => ?_⟩
  · show ecount (h + 1) p.els[i] ≤ 1000; omega
  · show 0 < ecount (h + 1) p.els[i]; omega

set_option maxHeartbeats 1000000 in
set_option maxRecDepth 100000 in
theorem find_any (w : World) (F : Nat → Prop) (h : Nat) (p : Pg h) (B : Option Addr) (k : Key) (m d : Nat) (hp : Good w F h p) (hk : Seen w B k) (hm : k.length = m) :
    Calls Try.prog 27 #[pval h p, .slice B m d] w (FindOut w F k (flats h p.els)) := by
  have HP := Lib.hid hp
  have HK := Lib.hid hk
  have HM := Lib.hid hm
  obtain ⟨l, hl⟩ : ∃ l, l = flats h p.els := ⟨_, rfl⟩
  rw [← hl]
  have HL := Lib.hid hl
  obtain ⟨A0, n0, c0, A1, n1, c1, A2, n2, c2, hv⟩ := page_form h p
  have HV := Lib.hid hv
  unfold pval
  rw [hv]
  clear hp hk hm hl hv
  have HB1 : Hid (Blk ((w.alloc (.cells #[.slice A0 n0 c0, .slice A1 n1 c1, .slice A2 n2 c2] 55)).alloc (.cells #[.slice none 0 0, .slice none 0 0] 48)) w.heap.size [.slice A0 n0 c0, .slice A1 n1 c1, .slice A2 n2 c2] 55) := (Blk.new w _ _).alloc _
  have HB2 : Hid (Blk ((w.alloc (.cells #[.slice A0 n0 c0, .slice A1 n1 c1, .slice A2 n2 c2] 55)).alloc (.cells #[.slice none 0 0, .slice none 0 0] 48)) (w.heap.size + 1) [.slice none 0 0, .slice none 0 0] 48) := by
    have := Blk.new (w.alloc (.cells #[.slice A0 n0 c0, .slice A1 n1 c1, .slice A2 n2 c2] 55)) [.slice none 0 0, .slice none 0 0] 48
    rw [show (w.alloc (.cells #[.slice A0 n0 c0, .slice A1 n1 c1, .slice A2 n2 c2] 55)).heap.size = w.heap.size + 1 by simp] at this
    exact this
  have HBW : Hid (Below w.heap.size w ((w.alloc (.cells #[.slice A0 n0 c0, .slice A1 n1 c1, .slice A2 n2 c2] 55)).alloc (.cells #[.slice none 0 0, .slice none 0 0] 48))) := ((Below.refl _ _).alloc (Nat.le_refl _) _).alloc (by simp) _
  go_enter Try.func27, Try.ntmps27
  go_wp2_with fail
  go_loopg [8] h (fun kx s8 wr => ∃ p : Pg kx, Good w F kx p ∧ Blk wr w.heap.size (ecells (kx + 1) p) 55 ∧ Blk wr (w.heap.size + 1) [.slice none 0 0, .slice none 0 0] 48 ∧ Below w.heap.size w wr ∧ hasL k (flats kx p.els) = hasL k l ∧ getL k (flats kx p.els) = getL k l)
  case atStart => exact ⟨p, HP.out, by rw [HV.out]; exact HB1.out, HB2.out, HBW.out, by rw [HL.out], by rw [HL.out]⟩
  case round =>
    obtain ⟨p, hp, hb1, hb2, hbw, hhas, hget⟩ := hrel
    clear HP HL HV HB1 HB2 HBW
    have HP := Lib.hid hp
    have HHAS := Lib.hid hhas
    have HGET := Lib.hid hget
    have HB1 := Lib.hid hb1
    have HB2 := Lib.hid hb2
    have HBW := Lib.hid hbw
    clear hp hb1 hb2 hbw hhas hget
    cases gk with
    | zero =>
      obtain ⟨f, A, els, c⟩ := p
      have HPL : Hid (∀ W, Below w.heap.size w W → Calls Try.prog 47 #[.agg #[pv f, .slice A els.length c, .slice none 0 0], .slice B m d] W fun e w' => e = .returned (.tuple #[.int .i64 ((low k (flats 0 els)).length : Nat), .bool (hasL k (flats 0 els))]) ∧ Below W.heap.size W w') := fun W hW =>
        place_any W F ⟨f, A, els, c⟩ B k m d (HP.out.ok.below hW) (by have := HP.out.few; dsimp only at this ⊢; omega) HP.out.srt (HK.out.below hW) HM.out
      have HB1' : Hid (Blk wr w.heap.size [.slice f.1 f.2.1.length f.2.2, .slice A els.length c, .slice none 0 0] 55) := HB1.out
      have hcut := HP.out.srt.cut k
      dsimp only at hcut
      have HQ : Hid (hasL k (flats 0 els) = true → ∃ i, (low k (flats 0 els)).length = i ∧ i < els.length ∧ ∃ b off, A = some ⟨b, off, none⟩ ∧ ∃ q : El 0, EOk w F 0 q ∧ kv0 q = (k, getL k l) ∧ ∀ W, Below w.heap.size w W → W.cell? ⟨b, off + i * 2, none⟩ = some (pv (epiece 0 q)) ∧ W.cell? ⟨b, off + i * 2 + 1, none⟩ = some (pv (eval0 q))) := fun hy => by
        rcases hcut with ⟨_, e2, _⟩ | ⟨e1, _⟩
        · have hz : (flats 0 els)[(low k (flats 0 els)).length]? = some (k, getL k (flats 0 els)) := by
            conv => lhs; arg 1; rw [e2]
            simp
          have hlt : (low k (flats 0 els)).length < els.length := by
            have := (List.getElem?_eq_some_iff.1 hz).1
            rw [flats_zero_length] at this
            exact this
          rw [flats_zero, List.getElem?_map] at hz
          rw [← flats_zero, List.getElem?_eq_getElem hlt] at hz
          injection hz with hz
          obtain ⟨b, off, rfl, hb, _, hc⟩ := (HP.out.ok.2.1).elem _ hlt
          refine ⟨_, rfl, hlt, b, off, rfl, els[(low k (flats 0 els)).length], HP.out.ok.2.2.2 _ (List.getElem_mem hlt), ?_, fun W hW => ⟨(hW.cell (p := ⟨b, off + (low k (flats 0 els)).length * 2, none⟩) hb).trans (hc 0 (by decide)), (hW.cell (p := ⟨b, off + (low k (flats 0 els)).length * 2 + 1, none⟩) hb).trans (hc 1 (by decide))⟩⟩
          rw [hz]
          have := HGET.out
          rw [this]
        · rw [e1] at hy; cases hy
      have HH : Hid (hasL k (flats 0 els) = hasL k l) := HHAS.out
      generalize hasL k (flats 0 els) = has at *
      generalize (low k (flats 0 els)).length = i at *
      have hn1 : els.length ≤ 1000 := HP.out.few
      unfold pv at HPL
      clear hcut HHAS HGET HB1 HP
      generalize els.length = n at *
      generalize f.2.1.length = nf at *
      generalize f.1 = Af at *
      generalize f.2.2 = cf at *
      have x0 := HB1'.out.cell (i := 0) (by simp)
      have x1 := HB1'.out.cell (i := 1) (by simp)
      have x2 := HB1'.out.cell (i := 2) (by simp)
      simp only [List.getElem_cons_zero, List.getElem_cons_succ] at x0 x1 x2
      go_wp2_with fail
      refine (isLeaf_yes _ Af A nf cf n c).mono ?_
      rintro e w3 ⟨rfl, hb3⟩
      have HX3 := Lib.hid (HB1'.out.below hb3 HB1'.out.lt)
      have HR3 := Lib.hid (HB2.out.below hb3 HB2.out.lt)
      have HW3 := Lib.hid (hop HBW.out hb3)
      clear hb3 x0 x1 x2 HB1' HB2
      have x0 := HX3.out.cell (i := 0) (by simp)
      have x1 := HX3.out.cell (i := 1) (by simp)
      have x2 := HX3.out.cell (i := 2) (by simp)
      simp only [List.getElem_cons_zero, List.getElem_cons_succ] at x0 x1 x2
      go_wp2_with fail
      refine (HPL.out w3 HW3.out).mono ?_
      rintro e w4 ⟨rfl, hb4⟩
      have HX4 := Lib.hid (HX3.out.below hb4 HX3.out.lt)
      have HR4 := Lib.hid (HR3.out.below hb4 HR3.out.lt)
      have HW4 := Lib.hid (hop HW3.out hb4)
      clear hb4 x0 x1 x2 HX3 HR3 HPL
      have x0 := HX4.out.cell (i := 0) (by simp)
      have x1 := HX4.out.cell (i := 1) (by simp)
      have x2 := HX4.out.cell (i := 2) (by simp)
      have r0 := HR4.out.cell (i := 0) (by simp)
      have r1 := HR4.out.cell (i := 1) (by simp)
      have f0 := HR4.out.free 0
      have f1 := HR4.out.free 1
      simp only [List.getElem_cons_zero, List.getElem_cons_succ] at x0 x1 x2 r0 r1
      cases has with
      | false =>
        have HF : Hid (hasL k l = false) := HH.out.symm
        go_wp2_with fail
        refine bodyPost_ret (v := .tuple #[.agg #[.slice none 0 0, .slice none 0 0], .bool false]) (by simp [results, Try.results27, go_sem, r0, r1]) rfl ⟨?_, .inr ⟨HF.out, rfl⟩⟩
        exact (HW4.out.setCell (by simp) _).setCell (by simp) _
      | true =>
        have HF : Hid (hasL k l = true) := HH.out.symm
        obtain ⟨_, rfl, hi, b, off, rfl, q, hq1, hq2, hq3⟩ := HQ.out rfl
        obtain ⟨y0, y1⟩ := hq3 _ HW4.out
        have HQ1 := Lib.hid hq1
        have HQ2 := Lib.hid hq2
        have hi0 : (0 : Int) ≤ (i : Int) := by omega
        have hi1 : (i : Int) < (n : Int) := by omega
        unfold pv at y0 y1
        clear hq1 hq2 hq3 HQ
        go_wp2_with fail
        refine bodyPost_ret (v := .tuple #[.agg #[pv (epiece 0 q), pv (eval0 q)], .bool true]) (by simp [results, Try.results27, go_sem, pv, r0, r1]) rfl ⟨?_, .inl ⟨HF.out, q, rfl, HQ1.out, HQ2.out⟩⟩
        exact (HW4.out.setCell (by simp) _).setCell (by simp) _
    | succ j =>
      obtain ⟨f, A, els, c⟩ := p
      obtain ⟨i, hi, hr, hlo, hhi⟩ := route j k els (fun x hx => HP.out.inner.full hx) HP.out.srt (HP.out.some_ (by omega))
      have HR := Lib.hid hr
      have HSP : Hid (hasL k (eflat (j + 1) els[i]) = hasL k l ∧ getL k (eflat (j + 1) els[i]) = getL k l) := by
        have e := flats_split (j + 1) els i hi
        rw [← HHAS.out, ← HGET.out]
        show _ = hasL k (flats (j + 1) els) ∧ _ = getL k (flats (j + 1) els)
        rw [e, mid_has hlo hhi, mid_get hlo hhi]
        exact ⟨rfl, rfl⟩
      have HKID := Lib.hid (HP.out.kid i hi)
      obtain ⟨K0, k0, e0, K1, k1, e1, K2, k2, e2, hkv⟩ := page_form j els[i]
      obtain ⟨b, off, rfl, hb, hFb, hcell⟩ := (HP.out.ok.2.1).elem i hi
      have HKC : Hid (∀ W, Below w.heap.size w W → W.cell? ⟨b, off + i * 3, none⟩ = some (.slice K0 k0 e0) ∧ W.cell? ⟨b, off + i * 3 + 1, none⟩ = some (.slice K1 k1 e1) ∧ W.cell? ⟨b, off + i * 3 + 2, none⟩ = some (.slice K2 k2 e2)) := fun W hW => by
        have h0 := hcell 0 (by decide : 0 < 3)
        have h1 := hcell 1 (by decide : 1 < 3)
        have h2 := hcell 2 (by decide : 2 < 3)
        have hkv' : ecells (j + 1) els[i] = [.slice K0 k0 e0, .slice K1 k1 e1, .slice K2 k2 e2] := hkv
        rw [hkv'] at h0 h1 h2
        exact ⟨(hW.cell (p := ⟨b, off + i * 3, none⟩) hb).trans h0, (hW.cell (p := ⟨b, off + i * 3 + 1, none⟩) hb).trans h1, (hW.cell (p := ⟨b, off + i * 3 + 2, none⟩) hb).trans h2⟩
      have HKV := Lib.hid hkv
      have HU : Hid (∀ W, Below w.heap.size w W → Calls Try.prog 46 #[.agg #[pv f, .slice none 0 0, .slice (some ⟨b, off, none⟩) els.length c], .slice B m d] W fun e w' => e = .returned (.int .i64 i) ∧ Below W.heap.size W w') := fun W hW =>
        under_any W F j ⟨f, some ⟨b, off, none⟩, els, c⟩ i B k m d (HP.out.ok.below hW) (by have := HP.out.few; dsimp only at this ⊢; omega) hi hr (HK.out.below hW) HM.out
      have hn0 : 0 < els.length := by omega
      have hn1 : els.length ≤ 1000 := HP.out.few
      have HEI : Hid (els[i] = els[i]) := rfl
      obtain ⟨kid, hkid⟩ : ∃ kid : Pg j, kid = els[i] := ⟨_, rfl⟩
      rw [← hkid] at HSP HKID HKV
      have HB1' : Hid (Blk wr w.heap.size [.slice f.1 f.2.1.length f.2.2, .slice none 0 0, .slice (some ⟨b, off, none⟩) els.length c] 55) := HB1.out
      have HI := hi
      unfold pv at HU
      clear hr hlo hhi hcell hkv hkid HEI HHAS HGET HB1 HP HR hi
      generalize els.length = n at *
      generalize f.2.1.length = nf at *
      generalize f.1 = Af at *
      generalize f.2.2 = cf at *
      have x0 := HB1'.out.cell (i := 0) (by simp)
      have x1 := HB1'.out.cell (i := 1) (by simp)
      have x2 := HB1'.out.cell (i := 2) (by simp)
      simp only [List.getElem_cons_zero, List.getElem_cons_succ] at x0 x1 x2
      have hi0 : (0 : Int) ≤ (i : Int) := by omega
      have hi1 : (i : Int) < (n : Int) := by omega
      go_wp2_with fail
      refine (isLeaf_no _ Af none (some ⟨b, off, none⟩) nf cf 0 0 n c hn0).mono ?_
      rintro e w3 ⟨rfl, hb3⟩
      have HX3 := Lib.hid (HB1'.out.below hb3 HB1'.out.lt)
      have HR3 := Lib.hid (HB2.out.below hb3 HB2.out.lt)
      have HW3 := Lib.hid (hop HBW.out hb3)
      clear hb3 x0 x1 x2 HB1' HB2
      have x0 := HX3.out.cell (i := 0) (by simp)
      have x1 := HX3.out.cell (i := 1) (by simp)
      have x2 := HX3.out.cell (i := 2) (by simp)
      simp only [List.getElem_cons_zero, List.getElem_cons_succ] at x0 x1 x2
      go_wp2_with fail
      go_region_with (go_at_call 46; refine (HU.out _ HW3.out.drew).mono ?_; rintro e w5 ⟨rfl, hb5⟩; have HX5 := Lib.hid (HX3.out.below (undrew hb5) HX3.out.lt); have HR5 := Lib.hid (HR3.out.below (undrew hb5) HR3.out.lt); have HW5 := Lib.hid (hop HW3.out (undrew hb5)); obtain ⟨y0, y1, y2⟩ := HKC.out _ HW5.out; have z0 := HX5.out.cell (i := 0) (by simp); have z1 := HX5.out.cell (i := 1) (by simp); have z2 := HX5.out.cell (i := 2) (by simp); simp only [List.getElem_cons_zero, List.getElem_cons_succ] at z0 z1 z2; have f0 := HX5.out.free 0; have f1 := HX5.out.free 1; have f2 := HX5.out.free 2; clear hb5)
      all_goals
        go_wp2_with fail
        go_roundg j
        case measure => omega
        case rel =>
          refine ⟨kid, HKID.out.below (Below.refl _ _), ?_, ?_, ?_, HSP.out.1, HSP.out.2⟩
          · rw [HKV.out]; exact ((HX5.out.set 0 (.slice K0 k0 e0)).set 1 (.slice K1 k1 e1)).set 2 (.slice K2 k2 e2)
          · exact ((HR5.out.other _ _ (by simp)).other _ _ (by simp)).other _ _ (by simp)
          · exact ((HW5.out.setCell (Nat.le_refl _) _).setCell (Nat.le_refl _) _).setCell (Nat.le_refl _) _
end Go.Proofs.Ytaeocbgmoijedaa
