/-
  Two stores on two disks, side by side: what Commit comes to. Conditions: as KvLive.
-/
import Derived.Test.YtdaahapbpnjkfaaGreatCKvAwake
namespace Go.Proofs.YtdaahapbpnjkfaaGreat
open Go.RowKit
structure St where
  s : Dsk
  a : Nat
  gen : Int
  ds : List (List UInt8)
  L : List Kv
section
variable {w w' : World} {T T' B : Nat → Prop} {q g b gt : Nat} {F : Nat → Prop} {h : Nat} {s : Dsk} {k : KvS}
theorem PSt.apart (p : PSt w T q g b gt F h s k) (hs : Spared w w' B) (hB : ∀ x, B x → T x) (hd : ∀ x, (F x ∨ x = b ∨ x = q ∨ x = gt) → ¬ B x) (hT : ∀ x, T x → T' x) (hT' : ∀ x, T' x → T x ∨ w.heap.size ≤ x) (hlt : ∀ x, T' x → x < w'.heap.size) : PSt w' T' q g b gt F h s k :=
  ⟨p.disk.apart hs (fun x hx => hd x (.inl hx)), hs.blk p.log (hd b (.inr (.inl rfl))), hs.blk p.box (hd q (.inr (.inr (.inl rfl)))), p.tree.moved (hs.mono (fun x hx => ⟨hB x hx, fun e => hd gt (.inr (.inr (.inr rfl))) (e ▸ hx)⟩)) hT' (hT gt p.tree.1), fun x hx => hT x (p.ins x hx), hlt, p.nb, p.nq, p.nt, p.bq, p.bt, p.qt, p.fits, p.half⟩
end
theorem commit_fewh {h m : Nat} {s : Dsk} {k : KvS} {l : List PutV} (f : k.Fits h s) (hb : k.lg.blocks = h) (ok : s.Ok) (hf : s.Few m) : (commitL h s k l).2.1.Few (m + h + 4) := by
  have one : ∀ (lg : Lg) (d : List UInt8), lg.Fits s → lg.blocks = h → (lg.dsk s d).Few (m + h + 4) := fun lg d hfit hbl => by
    by_cases hfull : lg.full d = true
    · have : lg.dsk s d = s := by
        unfold Lg.dsk
        rw [if_pos (by rw [hfull, Bool.or_true])]
      rw [this]
      exact hf.mono (by omega)
    · have hfull : lg.full d = false := by simpa using hfull
      have h1 := (Lg.full_false hfull).2.1
      have h2 := Lg.few (d := d) hfit ok hf
      have h3 : lg.room ≤ h * 64 := by unfold Lg.room; rw [hbl]; omega
      refine h2.mono ?_
      have h4 : (lg.code d).length ≤ h * 64 := by
        have := (Lg.full_false hfull)
        omega
      omega
  unfold commitL
  split
  · exact hf.mono (by omega)
  · split
    · exact hf.mono (by omega)
    · split
      · exact hf.mono (by omega)
      · split
        · show (turnL h s k _).2.1.Few _
          by_cases hg : 1152921504606846976 ≤ k.lg.gen
          · unfold turnL
            rw [if_pos hg]
            exact hf.mono (by omega)
          · unfold turnL
            rw [if_neg hg]
            exact one _ _ ⟨f.half.pos, two_fits (a := 1 - k.a) (by omega) f.half.fits, Nat.zero_le _, Nat.le_refl _, by show 1 ≤ k.lg.gen + 1; have := f.log.gen1; omega, by show k.lg.gen + 1 ≤ _; omega⟩ rfl
        · exact one _ _ f.log hb
def KPair (w0 w : World) (h g1 q1 : Nat) (X : St) (m1 : Nat) (g2 q2 : Nat) (Y : St) (m2 : Nat) : Prop :=
  ∃ (T : Nat → Prop) (b1 gt1 : Nat) (F1 : Nat → Prop) (b2 gt2 : Nat) (F2 : Nat → Prop), PSt w T q1 g1 b1 gt1 F1 h X.s (kvAt h X.a X.gen X.ds X.L) ∧ PSt w T q2 g2 b2 gt2 F2 h Y.s (kvAt h Y.a Y.gen Y.ds Y.L) ∧
    (KvOn X.s h X.a X.gen X.ds X.L ∧ X.s.Quiet ∧ X.s.Few m1) ∧ (KvOn Y.s h Y.a Y.gen Y.ds Y.L ∧ Y.s.Quiet ∧ Y.s.Few m2) ∧ Below w0.heap.size w0 w ∧ (∀ x, T x → w0.heap.size ≤ x) ∧ ∀ x, (F1 x ∨ x = b1 ∨ x = q1 ∨ x = gt1) → ¬ (F2 x ∨ x = b2 ∨ x = q2 ∨ x = gt2)
section
variable {w0 w w' : World} {h g1 q1 g2 q2 m1 m2 : Nat} {X Y : St}
theorem KPair.swap (k : KPair w0 w h g1 q1 X m1 g2 q2 Y m2) : KPair w0 w h g2 q2 Y m2 g1 q1 X m1 := by
  obtain ⟨T, b1, gt1, F1, b2, gt2, F2, p1, p2, x1, x2, h5, h6, h7⟩ := k
  exact ⟨T, b2, gt2, F2, b1, gt1, F1, p2, p1, x2, x1, h5, h6, fun x hx hy => h7 x hy hx⟩
theorem KPair.still (k : KPair w0 w h g1 q1 X m1 g2 q2 Y m2) (hb : Below w.heap.size w w') : KPair w0 w' h g1 q1 X m1 g2 q2 Y m2 := by
  obtain ⟨T, b1, gt1, F1, b2, gt2, F2, p1, p2, x1, x2, h5, h6, h7⟩ := k
  exact ⟨T, b1, gt1, F1, b2, gt2, F2, p1.below hb, p2.below hb, x1, x2, hop h5 hb, h6, h7⟩
theorem KPair.live (k : KPair w0 w h g1 q1 X m1 g2 q2 Y m2) : KLive w0 w g1 q1 h X.s X.a X.gen X.ds X.L m1 := by
  obtain ⟨T, b1, gt1, F1, b2, gt2, F2, p1, p2, x1, x2, h5, h6, h7⟩ := k
  exact ⟨T, b1, gt1, F1, p1, x1.1, x1.2.1, x1.2.2, h5, h6⟩
theorem KPair.commit (k : KPair w0 w h g1 q1 X m1 g2 q2 Y m2) (hK : X.s.K.length ≤ 400) (hm : m1 ≤ 690000) {A : Option Addr} {ps : List PPut} {n c : Nat} (hp : PutsSeen w0 A ps) (hn : ps.length = n) (hf : FewV (valsOf ps)) :
    Calls Tryz.prog 15 #[.pointer (some ⟨q1, 0, none⟩), .slice A n c] w fun e w' => ∃ E X', e = .returned (.int .i64 E) ∧ KPair w0 w' h g1 q1 X' (m1 + h + 4) g2 q2 Y m2 ∧ X'.s.K.length = X.s.K.length ∧ ((E = 0 ∧ X'.L = doAll (valsOf ps) X.L) ∨ E = 4) := by
  have hsm := k.live.small hK
  obtain ⟨T, b1, gt1, F1, b2, gt2, F2, p1, p2, x1, x2, h5, h6, h7⟩ := k
  have t := tame x1.1.srt hsm.1 hsm.2 hf
  have hn60 := hf.1
  rw [valsOf_length, hn] at hn60
  have tl := t.len
  rw [valsOf_length, hn] at tl
  obtain ⟨E, s', a', gen', ds', L', e1, e2, e3, e4, e5⟩ := commit_q x1.1 x1.2.1 hf t
  have hfew := commit_fewh (l := valsOf ps) p1.fits rfl p1.disk.ok x1.2.2
  have hFT : ∀ x, (F1 x ∨ x = b1 ∨ x = q1 ∨ x = gt1) → T x := fun x hx => p1.ins x hx
  refine (kcommit_any w T q1 g1 b1 gt1 F1 h X.s (kvAt h X.a X.gen X.ds X.L) A ps n c m1 p1 (fun W hW => hp.below (hW.below h5 (fun x hx => h6 x (hFT x hx)))) hn (by omega) x1.2.2 hm tl (by have := t.size; show sizeT X.L + _ ≤ _; omega) t.bat t.all).mono ?_
  rintro e w' ⟨rfl, T', b', gt', F', p', n1, n2, n3, n4⟩
  change PSt w' T' q1 g1 b' gt' F' h (commitL h X.s (kvAt h X.a X.gen X.ds X.L) (valsOf ps)).2.1 (commitL h X.s (kvAt h X.a X.gen X.ds X.L) (valsOf ps)).2.2 at p'
  rw [e1] at p' hfew ⊢
  have hsz := h5.size
  have hT' : ∀ x, T' x → w0.heap.size ≤ x := fun x hx => (n3 x hx).elim (h6 x) (fun h => by omega)
  refine ⟨E, ⟨s', a', gen', ds', L'⟩, rfl, ⟨T', b', gt', F', b2, gt2, F2, p', p2.apart n1 hFT (fun x hx hy => h7 x hy hx) n2 n3 p'.tlt, ⟨e2, e3, hfew⟩, x2, n1.below h5 (fun x hx => h6 x (hFT x hx)), hT', fun x hx hy => ?_⟩, e4, ?_⟩
  · have hlt : x < w.heap.size := p2.tlt x (p2.ins x hy)
    rcases hx with hx | hx | hx | hx
    · rcases n4 x (.inl hx) with hz | hz
      · exact h7 x (by rcases hz with hz | hz | hz; (· exact .inl hz); (· exact .inr (.inl hz)); (· exact .inr (.inr (.inr hz)))) hy
      · omega
    · rcases n4 x (.inr (.inl hx)) with hz | hz
      · exact h7 x (by rcases hz with hz | hz | hz; (· exact .inl hz); (· exact .inr (.inl hz)); (· exact .inr (.inr (.inr hz)))) hy
      · omega
    · exact h7 x (.inr (.inr (.inl hx))) hy
    · rcases n4 x (.inr (.inr hx)) with hz | hz
      · exact h7 x (by rcases hz with hz | hz | hz; (· exact .inl hz); (· exact .inr (.inl hz)); (· exact .inr (.inr (.inr hz)))) hy
      · omega
  · rcases e5 with ⟨h1, h2, _⟩ | ⟨h1, _⟩
    · exact .inl ⟨h1, h2⟩
    · exact .inr h1
theorem kopen_pair {F1 F2 : Nat → Prop} {n : Nat} (hd1 : DiskAt w g1 F1 (Dsk.new n)) (hd2 : DiskAt w g2 F2 (Dsk.new n)) (h2 : 2 ≤ n) (h4 : n ≤ 400) (hb : Below w0.heap.size w0 w) (hF1 : ∀ k, F1 k → w0.heap.size ≤ k) (hF2 : ∀ k, F2 k → w0.heap.size ≤ k) (hd : ∀ x, F1 x → ¬ F2 x) :
    Calls Tryz.prog 13 #[.pointer (some ⟨g1, 0, none⟩)] w fun e w' => ∃ q1, e = .returned (.tuple #[.pointer (some ⟨q1, 0, none⟩), .int .i64 0]) ∧
      Calls Tryz.prog 13 #[.pointer (some ⟨g2, 0, none⟩)] w' fun e w'' => ∃ q2 X Y, e = .returned (.tuple #[.pointer (some ⟨q2, 0, none⟩), .int .i64 0]) ∧ X.s.K.length = n ∧ Y.s.K.length = n ∧ X.L = [] ∧ Y.L = [] ∧ KPair w0 w'' (n / 2) g1 q1 X 1100 g2 q2 Y 1100 := by
  have hl : (Dsk.new n).K.length = n := List.length_replicate
  have hno := new_no h2 (by omega)
  obtain ⟨o1, o2, o3, o4, o5, o6⟩ := hno.open_q (n := 0) ⟨rfl, rfl⟩
  refine (kopen_any w (fun x => F1 x ∨ F2 x) (fun x hx => hx.elim (hd1.lt x) (hd2.lt x)) g1 F1 (fun x hx => .inl hx) (Dsk.new n) (n / 2) 0 hd1 (by rw [hl]) (by omega) (Dsk.Few.new n) (by omega)).mono ?_
  rintro e w' (⟨h1, _⟩ | ⟨k', T', q', b', gt', F', h1, rfl, h3, h4', h5, h6, h7, h8, h9, h10, h11⟩)
  · rw [o3] at h1; cases h1
  · rw [o3] at h1
    injection h1 with h1
    subst h1
    have hz := hb.size
    refine ⟨q', by rw [o1], ?_⟩
    refine (kopen_any w' T' h3.tlt g2 F2 (fun x hx => h6 x (.inr hx)) (Dsk.new n) (n / 2) 0 (hd2.apart h4' (fun x hx hy => hd x hy hx)) (by rw [hl]) (by omega) (Dsk.Few.new n) (by omega)).mono ?_
    rintro e w'' (⟨k1, _⟩ | ⟨k'', T2, q2, b2, gt2, F2', k1, rfl, k3, k4, k5, k6, k7, k8, k9, k10, k11⟩)
    · rw [o3] at k1; cases k1
    · rw [o3] at k1
      injection k1 with k1
      subst k1
      have hbw : Below w0.heap.size w0 w'' := k4.below (h4'.below hb hF1) hF2
      have hz4 := h4'.size
      have own2 : ∀ x, (F2' x ∨ x = b2 ∨ x = q2 ∨ x = gt2) → F2 x ∨ w'.heap.size ≤ x := fun x hx => by
        rcases hx with hx | hx | hx | hx
        · exact k5 x hx
        · exact .inr (by omega)
        · exact .inr (by omega)
        · exact .inr (by omega)
      have own1 : ∀ x, (F' x ∨ x = b' ∨ x = q' ∨ x = gt') → x < w'.heap.size ∧ (F1 x ∨ w.heap.size ≤ x) := fun x hx => by
        refine ⟨h3.tlt x (h3.ins x hx), ?_⟩
        rcases hx with hx | hx | hx | hx
        · exact h5 x hx
        · exact .inr (by omega)
        · exact .inr (by omega)
        · exact .inr (by omega)
      have dj : ∀ x, (F' x ∨ x = b' ∨ x = q' ∨ x = gt') → ¬ F2 x := fun x hx hy => (own1 x hx).2.elim (fun h => hd x h hy) (fun h => by have := hd2.lt x hy; omega)
      refine ⟨q2, ⟨_, 0, 1, _, []⟩, ⟨_, 0, 1, _, []⟩, by rw [o1], by show (openK (n / 2) (Dsk.new n)).2.1.K.length = n; rw [o6, hl], by show (openK (n / 2) (Dsk.new n)).2.1.K.length = n; rw [o6, hl], rfl, rfl, T2, b', gt', F', b2, gt2, F2', h3.apart k4 (fun x hx => h6 x (.inr hx)) dj k6 k7 k3.tlt, k3, ⟨o2, o4, o5 (Dsk.Few.new n)⟩, ⟨o2, o4, o5 (Dsk.Few.new n)⟩, hbw, fun x hx => ?_, fun x hx hy => ?_⟩
      · rcases k7 x hx with h | h
        · rcases h7 x h with h | h
          · exact h.elim (hF1 x) (hF2 x)
          · omega
        · omega
      · rcases own2 x hy with h | h
        · exact dj x hx h
        · have := (own1 x hx).1; omega
end
end Go.Proofs.YtdaahapbpnjkfaaGreat
